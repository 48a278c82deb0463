/- The program's lay: the numbers of a frame, kind by kind (printed by gen11/ve.py). -/
import Derived.Test.YtdlhclakdllogaaVd
namespace Go.Proofs.Ytdlhclakdllogaa
open Go.RowKit

set_option maxHeartbeats 8000000 in
set_option maxRecDepth 100000 in
theorem lay5 (B x y N : Nat) (q : Option (List Nat)) (i o n c nd c1 m c2 : Nat) (fn : Bool) (p1 p2 : Option Addr) (hnd : nd ≤ 2048) (hN : N ≤ 100) (hl : ∀ z ∈ [5, i, c], z < 18446744073709551616) (W : World) (h : PS B x y N q W) (hB : B ≤ W.heap.size) :
    Calls Try.prog 21 #[.agg #[.int .u64 5, .int .u64 (i : Int), .int .u64 (o : Int), .int .u64 (n : Int), .int .u64 (c : Int), .bool fn, .slice p1 nd c1, .slice p2 m c2], .func (.func 19) #[] #[.pointer (some ⟨y, 0, none⟩), .pointer (some ⟨x, 0, none⟩)]] W fun e w' => (∃ v, e = .returned v) ∧ PS B x y (N + 3) (bindO q [5, i, c]) w' ∧ Two x y W w' := by
  have wl : IntKind.u64.wrap (nd : Int) = (nd : Int) := by rw [IntKind.wrap_u64]; omega
  have PP := Lib.hid (fun pl cl w h1 h2 h3 => pput_c B x y N q [5, i, c] hl (by omega) pl 3 cl (by decide) w h1 h2 h3)
  have xl := h.out.choose_spec.1.lt
  have yl := h.fault.lt
  replace h := Lib.hid h
  clear hl hnd hN
  go_enter Try.func21, Try.ntmps21
  go_upto_region 0 with fail
  rename_i aK
  refine wp_region_seq ?_
  refine wpSeq_wp rfl ?_
  unfold Oper.wp execOp
  go_simp
  refine wpSeq_nil ?_
  refine aK _ _ ?_
  clear aK
  have b0 := (Below.refl W.heap.size W).alloc (Nat.le_refl _) (.cells #[.int .u64 5, .int .u64 (i : Int), .int .u64 (o : Int), .int .u64 (n : Int), .int .u64 (c : Int), .bool fn, .slice p1 nd c1, .slice p2 m c2] 26)
  have K := Blk.new W 26 #[.int .u64 5, .int .u64 (i : Int), .int .u64 (o : Int), .int .u64 (n : Int), .int .u64 (c : Int), .bool fn, .slice p1 nd c1, .slice p2 m c2]
  generalize World.alloc W _ = W2 at *
  have x0 : W2.cell? ⟨W.heap.size, 0, none⟩ = some (.int .u64 5) := K.cell 0
  have x1 : W2.cell? ⟨W.heap.size, 1, none⟩ = some (.int .u64 (i : Int)) := K.cell 1
  have x4 : W2.cell? ⟨W.heap.size, 4, none⟩ = some (.int .u64 (c : Int)) := K.cell 4
  have x6 : W2.cell? ⟨W.heap.size, 6, none⟩ = some (.slice p1 nd c1) := K.cell 6
  clear K
  go_upto_region 1 with fail
  rename_i aK
  refine wp_region_seq ?_
  refine wpSeq_yield (S := fun _ => True) (v := .pointer (some ⟨W.heap.size, 6, none⟩)) (Or.inl ⟨by rfl, fun w' hw' => by go_simp⟩) trivial ?_
  simp only [AP]
  refine wpSeq_yield (S := fun w' => w' = W2) (v := .slice p1 nd c1) (Or.inl ⟨by rfl, fun w' hw' => by (rw [hw']; go_simp)⟩) rfl ?_
  simp only [AP]
  refine wpSeq_yield (S := fun _ => True) (v := .int .i64 (nd : Int)) (Or.inl ⟨by rfl, fun w' hw' => by go_simp⟩) trivial ?_
  simp only [AP]
  refine wpSeq_yield (S := fun _ => True) (v := .int .u64 (nd : Int)) (Or.inl ⟨by rfl, fun w' hw' => by (go_simp; try rfl)⟩) trivial ?_
  simp only [AP]
  refine wpSeq_yield (S := fun _ => True) (yieldsIf_assign rfl _ rfl (.int .u64 (nd : Int)) rfl) trivial ?_
  simp only [AP]
  refine wpSeq_nil ?_
  refine aK _ _ ?_
  clear aK
  go_upto_region 2 with fail
  rename_i aK
  refine wp_region_seq ?_
  refine wpSeq_yield (S := fun _ => True) (v := .pointer (some ⟨W.heap.size, 0, none⟩)) (Or.inl ⟨by rfl, fun w' hw' => by go_simp⟩) trivial ?_
  simp only [AP]
  refine wpSeq_yield (S := fun w' => w' = W2) (v := .int .u64 5) (Or.inl ⟨by rfl, fun w' hw' => by (rw [hw']; go_simp)⟩) rfl ?_
  simp only [AP]
  refine wpSeq_nil ?_
  refine aK _ _ ?_
  clear aK
  go_upto_region 9 with fail
  rename_i aK
  refine wp_region_seq ?_
  refine wpSeq_yield (S := fun _ => True) (yieldsIf_move rfl _ rfl (.func (.func 19) #[] #[.pointer (some ⟨y, 0, none⟩), .pointer (some ⟨x, 0, none⟩)]) rfl) trivial ?_
  simp only [AP]
  refine wpSeq_yield (S := fun _ => True) (v := .pointer (some ⟨W.heap.size, 0, none⟩)) (Or.inl ⟨by rfl, fun w' hw' => by go_simp⟩) trivial ?_
  simp only [AP]
  refine wpSeq_yield (S := fun w' => w' = W2) (v := .int .u64 5) (Or.inl ⟨by rfl, fun w' hw' => by (rw [hw']; go_simp)⟩) rfl ?_
  simp only [AP]
  refine wpSeq_yield (S := fun _ => True) (v := .pointer (some ⟨W.heap.size, 1, none⟩)) (Or.inl ⟨by rfl, fun w' hw' => by go_simp⟩) trivial ?_
  simp only [AP]
  refine wpSeq_yield (S := fun w' => w' = W2) (v := .int .u64 (i : Int)) (Or.inl ⟨by rfl, fun w' hw' => by (rw [hw']; go_simp)⟩) rfl ?_
  simp only [AP]
  refine wpSeq_yield (S := fun _ => True) (v := .pointer (some ⟨W.heap.size, 4, none⟩)) (Or.inl ⟨by rfl, fun w' hw' => by go_simp⟩) trivial ?_
  simp only [AP]
  refine wpSeq_yield (S := fun w' => w' = W2) (v := .int .u64 (c : Int)) (Or.inl ⟨by rfl, fun w' hw' => by (rw [hw']; go_simp)⟩) rfl ?_
  simp only [AP]
  refine wpSeq_wp rfl ?_
  unfold Oper.wp execOp
  go_simp
  have b1 := (Below.refl W2.heap.size W2).alloc (Nat.le_refl _) (.cells #[.int .u64 5, .int .u64 (i : Int), .int .u64 (c : Int)] 22)
  have O := (OwU.new W2.heap.size W2 [5, i, c] (Nat.le_refl _) (by simp only [List.length_cons, List.length_nil, maxLen]; omega)).su
  replace O : SU (W2.alloc (.cells #[.int .u64 5, .int .u64 (i : Int), .int .u64 (c : Int)] 22)) (.slice (some ⟨W2.heap.size, 0, none⟩) 3 3) [5, i, c] := O
  replace b0 := b0.trans (b1.mono b0.size)
  obtain ⟨pg, hpg⟩ : ∃ p, p = some (⟨W2.heap.size, 0, none⟩ : Addr) := ⟨_, rfl⟩
  rw [← hpg] at O ⊢
  clear b1 hpg x0 x1 x4 x6
  generalize World.alloc W2 _ = W3 at *
  refine wpSeq_wp rfl ?_
  unfold Oper.wp execOp
  go_simp
  refine (PP.out _ _ W3 (h.out.below b0) (Nat.le_trans hB b0.size) O).mono ?_
  rintro _ w5 ⟨⟨v5, rfl⟩, P5, T5⟩
  go_simp
  refine wpSeq_nil ?_
  go_wp2
  refine bodyPost_end (results_none rfl _ _ _) rfl ?_
  exact ⟨⟨_, rfl⟩, P5, (Two.of b0).trans T5⟩
set_option maxHeartbeats 8000000 in
set_option maxRecDepth 100000 in
theorem lay4 (B x y N : Nat) (q : Option (List Nat)) (i o n c nd c1 m c2 : Nat) (fn : Bool) (p1 p2 : Option Addr) (hnd : nd ≤ 2048) (hN : N ≤ 100) (hl : ∀ z ∈ [4, i, c, n], z < 18446744073709551616) (W : World) (h : PS B x y N q W) (hB : B ≤ W.heap.size) :
    Calls Try.prog 21 #[.agg #[.int .u64 4, .int .u64 (i : Int), .int .u64 (o : Int), .int .u64 (n : Int), .int .u64 (c : Int), .bool fn, .slice p1 nd c1, .slice p2 m c2], .func (.func 19) #[] #[.pointer (some ⟨y, 0, none⟩), .pointer (some ⟨x, 0, none⟩)]] W fun e w' => (∃ v, e = .returned v) ∧ PS B x y (N + 4) (bindO q [4, i, c, n]) w' ∧ Two x y W w' := by
  have wl : IntKind.u64.wrap (nd : Int) = (nd : Int) := by rw [IntKind.wrap_u64]; omega
  have PP := Lib.hid (fun pl cl w h1 h2 h3 => pput_c B x y N q [4, i, c, n] hl (by omega) pl 4 cl (by decide) w h1 h2 h3)
  have xl := h.out.choose_spec.1.lt
  have yl := h.fault.lt
  replace h := Lib.hid h
  clear hl hnd hN
  go_enter Try.func21, Try.ntmps21
  go_upto_region 0 with fail
  rename_i aK
  refine wp_region_seq ?_
  refine wpSeq_wp rfl ?_
  unfold Oper.wp execOp
  go_simp
  refine wpSeq_nil ?_
  refine aK _ _ ?_
  clear aK
  have b0 := (Below.refl W.heap.size W).alloc (Nat.le_refl _) (.cells #[.int .u64 4, .int .u64 (i : Int), .int .u64 (o : Int), .int .u64 (n : Int), .int .u64 (c : Int), .bool fn, .slice p1 nd c1, .slice p2 m c2] 26)
  have K := Blk.new W 26 #[.int .u64 4, .int .u64 (i : Int), .int .u64 (o : Int), .int .u64 (n : Int), .int .u64 (c : Int), .bool fn, .slice p1 nd c1, .slice p2 m c2]
  generalize World.alloc W _ = W2 at *
  have x0 : W2.cell? ⟨W.heap.size, 0, none⟩ = some (.int .u64 4) := K.cell 0
  have x1 : W2.cell? ⟨W.heap.size, 1, none⟩ = some (.int .u64 (i : Int)) := K.cell 1
  have x3 : W2.cell? ⟨W.heap.size, 3, none⟩ = some (.int .u64 (n : Int)) := K.cell 3
  have x4 : W2.cell? ⟨W.heap.size, 4, none⟩ = some (.int .u64 (c : Int)) := K.cell 4
  have x6 : W2.cell? ⟨W.heap.size, 6, none⟩ = some (.slice p1 nd c1) := K.cell 6
  clear K
  go_upto_region 1 with fail
  rename_i aK
  refine wp_region_seq ?_
  refine wpSeq_yield (S := fun _ => True) (v := .pointer (some ⟨W.heap.size, 6, none⟩)) (Or.inl ⟨by rfl, fun w' hw' => by go_simp⟩) trivial ?_
  simp only [AP]
  refine wpSeq_yield (S := fun w' => w' = W2) (v := .slice p1 nd c1) (Or.inl ⟨by rfl, fun w' hw' => by (rw [hw']; go_simp)⟩) rfl ?_
  simp only [AP]
  refine wpSeq_yield (S := fun _ => True) (v := .int .i64 (nd : Int)) (Or.inl ⟨by rfl, fun w' hw' => by go_simp⟩) trivial ?_
  simp only [AP]
  refine wpSeq_yield (S := fun _ => True) (v := .int .u64 (nd : Int)) (Or.inl ⟨by rfl, fun w' hw' => by (go_simp; try rfl)⟩) trivial ?_
  simp only [AP]
  refine wpSeq_yield (S := fun _ => True) (yieldsIf_assign rfl _ rfl (.int .u64 (nd : Int)) rfl) trivial ?_
  simp only [AP]
  refine wpSeq_nil ?_
  refine aK _ _ ?_
  clear aK
  go_upto_region 2 with fail
  rename_i aK
  refine wp_region_seq ?_
  refine wpSeq_yield (S := fun _ => True) (v := .pointer (some ⟨W.heap.size, 0, none⟩)) (Or.inl ⟨by rfl, fun w' hw' => by go_simp⟩) trivial ?_
  simp only [AP]
  refine wpSeq_yield (S := fun w' => w' = W2) (v := .int .u64 4) (Or.inl ⟨by rfl, fun w' hw' => by (rw [hw']; go_simp)⟩) rfl ?_
  simp only [AP]
  refine wpSeq_nil ?_
  refine aK _ _ ?_
  clear aK
  go_upto_region 7 with fail
  rename_i aK
  refine wp_region_seq ?_
  refine wpSeq_yield (S := fun _ => True) (yieldsIf_move rfl _ rfl (.func (.func 19) #[] #[.pointer (some ⟨y, 0, none⟩), .pointer (some ⟨x, 0, none⟩)]) rfl) trivial ?_
  simp only [AP]
  refine wpSeq_yield (S := fun _ => True) (v := .pointer (some ⟨W.heap.size, 0, none⟩)) (Or.inl ⟨by rfl, fun w' hw' => by go_simp⟩) trivial ?_
  simp only [AP]
  refine wpSeq_yield (S := fun w' => w' = W2) (v := .int .u64 4) (Or.inl ⟨by rfl, fun w' hw' => by (rw [hw']; go_simp)⟩) rfl ?_
  simp only [AP]
  refine wpSeq_yield (S := fun _ => True) (v := .pointer (some ⟨W.heap.size, 1, none⟩)) (Or.inl ⟨by rfl, fun w' hw' => by go_simp⟩) trivial ?_
  simp only [AP]
  refine wpSeq_yield (S := fun w' => w' = W2) (v := .int .u64 (i : Int)) (Or.inl ⟨by rfl, fun w' hw' => by (rw [hw']; go_simp)⟩) rfl ?_
  simp only [AP]
  refine wpSeq_yield (S := fun _ => True) (v := .pointer (some ⟨W.heap.size, 4, none⟩)) (Or.inl ⟨by rfl, fun w' hw' => by go_simp⟩) trivial ?_
  simp only [AP]
  refine wpSeq_yield (S := fun w' => w' = W2) (v := .int .u64 (c : Int)) (Or.inl ⟨by rfl, fun w' hw' => by (rw [hw']; go_simp)⟩) rfl ?_
  simp only [AP]
  refine wpSeq_yield (S := fun _ => True) (v := .pointer (some ⟨W.heap.size, 3, none⟩)) (Or.inl ⟨by rfl, fun w' hw' => by go_simp⟩) trivial ?_
  simp only [AP]
  refine wpSeq_yield (S := fun w' => w' = W2) (v := .int .u64 (n : Int)) (Or.inl ⟨by rfl, fun w' hw' => by (rw [hw']; go_simp)⟩) rfl ?_
  simp only [AP]
  refine wpSeq_wp rfl ?_
  unfold Oper.wp execOp
  go_simp
  have b1 := (Below.refl W2.heap.size W2).alloc (Nat.le_refl _) (.cells #[.int .u64 4, .int .u64 (i : Int), .int .u64 (c : Int), .int .u64 (n : Int)] 22)
  have O := (OwU.new W2.heap.size W2 [4, i, c, n] (Nat.le_refl _) (by simp only [List.length_cons, List.length_nil, maxLen]; omega)).su
  replace O : SU (W2.alloc (.cells #[.int .u64 4, .int .u64 (i : Int), .int .u64 (c : Int), .int .u64 (n : Int)] 22)) (.slice (some ⟨W2.heap.size, 0, none⟩) 4 4) [4, i, c, n] := O
  replace b0 := b0.trans (b1.mono b0.size)
  obtain ⟨pg, hpg⟩ : ∃ p, p = some (⟨W2.heap.size, 0, none⟩ : Addr) := ⟨_, rfl⟩
  rw [← hpg] at O ⊢
  clear b1 hpg x0 x1 x3 x4 x6
  generalize World.alloc W2 _ = W3 at *
  refine wpSeq_wp rfl ?_
  unfold Oper.wp execOp
  go_simp
  refine (PP.out _ _ W3 (h.out.below b0) (Nat.le_trans hB b0.size) O).mono ?_
  rintro _ w5 ⟨⟨v5, rfl⟩, P5, T5⟩
  go_simp
  refine wpSeq_nil ?_
  go_wp2
  refine bodyPost_end (results_none rfl _ _ _) rfl ?_
  exact ⟨⟨_, rfl⟩, P5, (Two.of b0).trans T5⟩
set_option maxHeartbeats 8000000 in
set_option maxRecDepth 100000 in
theorem lay6 (B x y N : Nat) (q : Option (List Nat)) (i o n c nd c1 m c2 : Nat) (fn : Bool) (p1 p2 : Option Addr) (hnd : nd ≤ 2048) (hN : N ≤ 100) (hl : ∀ z ∈ [6, o, nd], z < 18446744073709551616) (W : World) (h : PS B x y N q W) (hB : B ≤ W.heap.size) :
    Calls Try.prog 21 #[.agg #[.int .u64 6, .int .u64 (i : Int), .int .u64 (o : Int), .int .u64 (n : Int), .int .u64 (c : Int), .bool fn, .slice p1 nd c1, .slice p2 m c2], .func (.func 19) #[] #[.pointer (some ⟨y, 0, none⟩), .pointer (some ⟨x, 0, none⟩)]] W fun e w' => (∃ v, e = .returned v) ∧ PS B x y (N + 3) (bindO q [6, o, nd]) w' ∧ Two x y W w' := by
  have wl : IntKind.u64.wrap (nd : Int) = (nd : Int) := by rw [IntKind.wrap_u64]; omega
  have PP := Lib.hid (fun pl cl w h1 h2 h3 => pput_c B x y N q [6, o, nd] hl (by omega) pl 3 cl (by decide) w h1 h2 h3)
  have xl := h.out.choose_spec.1.lt
  have yl := h.fault.lt
  replace h := Lib.hid h
  clear hl hnd hN
  go_enter Try.func21, Try.ntmps21
  go_upto_region 0 with fail
  rename_i aK
  refine wp_region_seq ?_
  refine wpSeq_wp rfl ?_
  unfold Oper.wp execOp
  go_simp
  refine wpSeq_nil ?_
  refine aK _ _ ?_
  clear aK
  have b0 := (Below.refl W.heap.size W).alloc (Nat.le_refl _) (.cells #[.int .u64 6, .int .u64 (i : Int), .int .u64 (o : Int), .int .u64 (n : Int), .int .u64 (c : Int), .bool fn, .slice p1 nd c1, .slice p2 m c2] 26)
  have K := Blk.new W 26 #[.int .u64 6, .int .u64 (i : Int), .int .u64 (o : Int), .int .u64 (n : Int), .int .u64 (c : Int), .bool fn, .slice p1 nd c1, .slice p2 m c2]
  generalize World.alloc W _ = W2 at *
  have x0 : W2.cell? ⟨W.heap.size, 0, none⟩ = some (.int .u64 6) := K.cell 0
  have x2 : W2.cell? ⟨W.heap.size, 2, none⟩ = some (.int .u64 (o : Int)) := K.cell 2
  have x6 : W2.cell? ⟨W.heap.size, 6, none⟩ = some (.slice p1 nd c1) := K.cell 6
  clear K
  go_upto_region 1 with fail
  rename_i aK
  refine wp_region_seq ?_
  refine wpSeq_yield (S := fun _ => True) (v := .pointer (some ⟨W.heap.size, 6, none⟩)) (Or.inl ⟨by rfl, fun w' hw' => by go_simp⟩) trivial ?_
  simp only [AP]
  refine wpSeq_yield (S := fun w' => w' = W2) (v := .slice p1 nd c1) (Or.inl ⟨by rfl, fun w' hw' => by (rw [hw']; go_simp)⟩) rfl ?_
  simp only [AP]
  refine wpSeq_yield (S := fun _ => True) (v := .int .i64 (nd : Int)) (Or.inl ⟨by rfl, fun w' hw' => by go_simp⟩) trivial ?_
  simp only [AP]
  refine wpSeq_yield (S := fun _ => True) (v := .int .u64 (nd : Int)) (Or.inl ⟨by rfl, fun w' hw' => by (go_simp; try rfl)⟩) trivial ?_
  simp only [AP]
  refine wpSeq_yield (S := fun _ => True) (yieldsIf_assign rfl _ rfl (.int .u64 (nd : Int)) rfl) trivial ?_
  simp only [AP]
  refine wpSeq_nil ?_
  refine aK _ _ ?_
  clear aK
  go_upto_region 2 with fail
  rename_i aK
  refine wp_region_seq ?_
  refine wpSeq_yield (S := fun _ => True) (v := .pointer (some ⟨W.heap.size, 0, none⟩)) (Or.inl ⟨by rfl, fun w' hw' => by go_simp⟩) trivial ?_
  simp only [AP]
  refine wpSeq_yield (S := fun w' => w' = W2) (v := .int .u64 6) (Or.inl ⟨by rfl, fun w' hw' => by (rw [hw']; go_simp)⟩) rfl ?_
  simp only [AP]
  refine wpSeq_nil ?_
  refine aK _ _ ?_
  clear aK
  go_upto_region 11 with fail
  rename_i aK
  refine wp_region_seq ?_
  refine wpSeq_yield (S := fun _ => True) (yieldsIf_move rfl _ rfl (.func (.func 19) #[] #[.pointer (some ⟨y, 0, none⟩), .pointer (some ⟨x, 0, none⟩)]) rfl) trivial ?_
  simp only [AP]
  refine wpSeq_yield (S := fun _ => True) (v := .pointer (some ⟨W.heap.size, 0, none⟩)) (Or.inl ⟨by rfl, fun w' hw' => by go_simp⟩) trivial ?_
  simp only [AP]
  refine wpSeq_yield (S := fun w' => w' = W2) (v := .int .u64 6) (Or.inl ⟨by rfl, fun w' hw' => by (rw [hw']; go_simp)⟩) rfl ?_
  simp only [AP]
  refine wpSeq_yield (S := fun _ => True) (v := .pointer (some ⟨W.heap.size, 2, none⟩)) (Or.inl ⟨by rfl, fun w' hw' => by go_simp⟩) trivial ?_
  simp only [AP]
  refine wpSeq_yield (S := fun w' => w' = W2) (v := .int .u64 (o : Int)) (Or.inl ⟨by rfl, fun w' hw' => by (rw [hw']; go_simp)⟩) rfl ?_
  simp only [AP]
  refine wpSeq_yield (S := fun _ => True) (yieldsIf_move rfl _ rfl (.int .u64 (nd : Int)) rfl) trivial ?_
  simp only [AP]
  refine wpSeq_wp rfl ?_
  unfold Oper.wp execOp
  go_simp
  have b1 := (Below.refl W2.heap.size W2).alloc (Nat.le_refl _) (.cells #[.int .u64 6, .int .u64 (o : Int), .int .u64 (nd : Int)] 22)
  have O := (OwU.new W2.heap.size W2 [6, o, nd] (Nat.le_refl _) (by simp only [List.length_cons, List.length_nil, maxLen]; omega)).su
  replace O : SU (W2.alloc (.cells #[.int .u64 6, .int .u64 (o : Int), .int .u64 (nd : Int)] 22)) (.slice (some ⟨W2.heap.size, 0, none⟩) 3 3) [6, o, nd] := O
  replace b0 := b0.trans (b1.mono b0.size)
  obtain ⟨pg, hpg⟩ : ∃ p, p = some (⟨W2.heap.size, 0, none⟩ : Addr) := ⟨_, rfl⟩
  rw [← hpg] at O ⊢
  clear b1 hpg x0 x2 x6
  generalize World.alloc W2 _ = W3 at *
  refine wpSeq_wp rfl ?_
  unfold Oper.wp execOp
  go_simp
  refine (PP.out _ _ W3 (h.out.below b0) (Nat.le_trans hB b0.size) O).mono ?_
  rintro _ w5 ⟨⟨v5, rfl⟩, P5, T5⟩
  go_simp
  refine wpSeq_nil ?_
  go_wp2
  refine bodyPost_end (results_none rfl _ _ _) rfl ?_
  exact ⟨⟨_, rfl⟩, P5, (Two.of b0).trans T5⟩
set_option maxHeartbeats 8000000 in
set_option maxRecDepth 100000 in
theorem lay16 (B x y N : Nat) (q : Option (List Nat)) (i o n c nd c1 m c2 : Nat) (fn : Bool) (p1 p2 : Option Addr) (hnd : nd ≤ 2048) (hN : N ≤ 100) (hl : ∀ z ∈ [16, n], z < 18446744073709551616) (W : World) (h : PS B x y N q W) (hB : B ≤ W.heap.size) :
    Calls Try.prog 21 #[.agg #[.int .u64 16, .int .u64 (i : Int), .int .u64 (o : Int), .int .u64 (n : Int), .int .u64 (c : Int), .bool fn, .slice p1 nd c1, .slice p2 m c2], .func (.func 19) #[] #[.pointer (some ⟨y, 0, none⟩), .pointer (some ⟨x, 0, none⟩)]] W fun e w' => (∃ v, e = .returned v) ∧ PS B x y (N + 2) (bindO q [16, n]) w' ∧ Two x y W w' := by
  have wl : IntKind.u64.wrap (nd : Int) = (nd : Int) := by rw [IntKind.wrap_u64]; omega
  have PP := Lib.hid (fun pl cl w h1 h2 h3 => pput_c B x y N q [16, n] hl (by omega) pl 2 cl (by decide) w h1 h2 h3)
  have xl := h.out.choose_spec.1.lt
  have yl := h.fault.lt
  replace h := Lib.hid h
  clear hl hnd hN
  go_enter Try.func21, Try.ntmps21
  go_upto_region 0 with fail
  rename_i aK
  refine wp_region_seq ?_
  refine wpSeq_wp rfl ?_
  unfold Oper.wp execOp
  go_simp
  refine wpSeq_nil ?_
  refine aK _ _ ?_
  clear aK
  have b0 := (Below.refl W.heap.size W).alloc (Nat.le_refl _) (.cells #[.int .u64 16, .int .u64 (i : Int), .int .u64 (o : Int), .int .u64 (n : Int), .int .u64 (c : Int), .bool fn, .slice p1 nd c1, .slice p2 m c2] 26)
  have K := Blk.new W 26 #[.int .u64 16, .int .u64 (i : Int), .int .u64 (o : Int), .int .u64 (n : Int), .int .u64 (c : Int), .bool fn, .slice p1 nd c1, .slice p2 m c2]
  generalize World.alloc W _ = W2 at *
  have x0 : W2.cell? ⟨W.heap.size, 0, none⟩ = some (.int .u64 16) := K.cell 0
  have x3 : W2.cell? ⟨W.heap.size, 3, none⟩ = some (.int .u64 (n : Int)) := K.cell 3
  have x6 : W2.cell? ⟨W.heap.size, 6, none⟩ = some (.slice p1 nd c1) := K.cell 6
  clear K
  go_upto_region 1 with fail
  rename_i aK
  refine wp_region_seq ?_
  refine wpSeq_yield (S := fun _ => True) (v := .pointer (some ⟨W.heap.size, 6, none⟩)) (Or.inl ⟨by rfl, fun w' hw' => by go_simp⟩) trivial ?_
  simp only [AP]
  refine wpSeq_yield (S := fun w' => w' = W2) (v := .slice p1 nd c1) (Or.inl ⟨by rfl, fun w' hw' => by (rw [hw']; go_simp)⟩) rfl ?_
  simp only [AP]
  refine wpSeq_yield (S := fun _ => True) (v := .int .i64 (nd : Int)) (Or.inl ⟨by rfl, fun w' hw' => by go_simp⟩) trivial ?_
  simp only [AP]
  refine wpSeq_yield (S := fun _ => True) (v := .int .u64 (nd : Int)) (Or.inl ⟨by rfl, fun w' hw' => by (go_simp; try rfl)⟩) trivial ?_
  simp only [AP]
  refine wpSeq_yield (S := fun _ => True) (yieldsIf_assign rfl _ rfl (.int .u64 (nd : Int)) rfl) trivial ?_
  simp only [AP]
  refine wpSeq_nil ?_
  refine aK _ _ ?_
  clear aK
  go_upto_region 2 with fail
  rename_i aK
  refine wp_region_seq ?_
  refine wpSeq_yield (S := fun _ => True) (v := .pointer (some ⟨W.heap.size, 0, none⟩)) (Or.inl ⟨by rfl, fun w' hw' => by go_simp⟩) trivial ?_
  simp only [AP]
  refine wpSeq_yield (S := fun w' => w' = W2) (v := .int .u64 16) (Or.inl ⟨by rfl, fun w' hw' => by (rw [hw']; go_simp)⟩) rfl ?_
  simp only [AP]
  refine wpSeq_nil ?_
  refine aK _ _ ?_
  clear aK
  go_upto_region 16 with fail
  rename_i aK
  refine wp_region_seq ?_
  refine wpSeq_yield (S := fun _ => True) (yieldsIf_move rfl _ rfl (.func (.func 19) #[] #[.pointer (some ⟨y, 0, none⟩), .pointer (some ⟨x, 0, none⟩)]) rfl) trivial ?_
  simp only [AP]
  refine wpSeq_yield (S := fun _ => True) (v := .pointer (some ⟨W.heap.size, 0, none⟩)) (Or.inl ⟨by rfl, fun w' hw' => by go_simp⟩) trivial ?_
  simp only [AP]
  refine wpSeq_yield (S := fun w' => w' = W2) (v := .int .u64 16) (Or.inl ⟨by rfl, fun w' hw' => by (rw [hw']; go_simp)⟩) rfl ?_
  simp only [AP]
  refine wpSeq_yield (S := fun _ => True) (v := .pointer (some ⟨W.heap.size, 3, none⟩)) (Or.inl ⟨by rfl, fun w' hw' => by go_simp⟩) trivial ?_
  simp only [AP]
  refine wpSeq_yield (S := fun w' => w' = W2) (v := .int .u64 (n : Int)) (Or.inl ⟨by rfl, fun w' hw' => by (rw [hw']; go_simp)⟩) rfl ?_
  simp only [AP]
  refine wpSeq_wp rfl ?_
  unfold Oper.wp execOp
  go_simp
  have b1 := (Below.refl W2.heap.size W2).alloc (Nat.le_refl _) (.cells #[.int .u64 16, .int .u64 (n : Int)] 22)
  have O := (OwU.new W2.heap.size W2 [16, n] (Nat.le_refl _) (by simp only [List.length_cons, List.length_nil, maxLen]; omega)).su
  replace O : SU (W2.alloc (.cells #[.int .u64 16, .int .u64 (n : Int)] 22)) (.slice (some ⟨W2.heap.size, 0, none⟩) 2 2) [16, n] := O
  replace b0 := b0.trans (b1.mono b0.size)
  obtain ⟨pg, hpg⟩ : ∃ p, p = some (⟨W2.heap.size, 0, none⟩ : Addr) := ⟨_, rfl⟩
  rw [← hpg] at O ⊢
  clear b1 hpg x0 x3 x6
  generalize World.alloc W2 _ = W3 at *
  refine wpSeq_wp rfl ?_
  unfold Oper.wp execOp
  go_simp
  refine (PP.out _ _ W3 (h.out.below b0) (Nat.le_trans hB b0.size) O).mono ?_
  rintro _ w5 ⟨⟨v5, rfl⟩, P5, T5⟩
  go_simp
  refine wpSeq_nil ?_
  go_wp2
  refine bodyPost_end (results_none rfl _ _ _) rfl ?_
  exact ⟨⟨_, rfl⟩, P5, (Two.of b0).trans T5⟩
set_option maxHeartbeats 8000000 in
set_option maxRecDepth 100000 in
theorem lay18 (B x y N : Nat) (q : Option (List Nat)) (i o n c nd c1 m c2 : Nat) (fn : Bool) (p1 p2 : Option Addr) (hnd : nd ≤ 2048) (hN : N ≤ 100) (hl : ∀ z ∈ [18, n], z < 18446744073709551616) (W : World) (h : PS B x y N q W) (hB : B ≤ W.heap.size) :
    Calls Try.prog 21 #[.agg #[.int .u64 18, .int .u64 (i : Int), .int .u64 (o : Int), .int .u64 (n : Int), .int .u64 (c : Int), .bool fn, .slice p1 nd c1, .slice p2 m c2], .func (.func 19) #[] #[.pointer (some ⟨y, 0, none⟩), .pointer (some ⟨x, 0, none⟩)]] W fun e w' => (∃ v, e = .returned v) ∧ PS B x y (N + 2) (bindO q [18, n]) w' ∧ Two x y W w' := by
  have wl : IntKind.u64.wrap (nd : Int) = (nd : Int) := by rw [IntKind.wrap_u64]; omega
  have PP := Lib.hid (fun pl cl w h1 h2 h3 => pput_c B x y N q [18, n] hl (by omega) pl 2 cl (by decide) w h1 h2 h3)
  have xl := h.out.choose_spec.1.lt
  have yl := h.fault.lt
  replace h := Lib.hid h
  clear hl hnd hN
  go_enter Try.func21, Try.ntmps21
  go_upto_region 0 with fail
  rename_i aK
  refine wp_region_seq ?_
  refine wpSeq_wp rfl ?_
  unfold Oper.wp execOp
  go_simp
  refine wpSeq_nil ?_
  refine aK _ _ ?_
  clear aK
  have b0 := (Below.refl W.heap.size W).alloc (Nat.le_refl _) (.cells #[.int .u64 18, .int .u64 (i : Int), .int .u64 (o : Int), .int .u64 (n : Int), .int .u64 (c : Int), .bool fn, .slice p1 nd c1, .slice p2 m c2] 26)
  have K := Blk.new W 26 #[.int .u64 18, .int .u64 (i : Int), .int .u64 (o : Int), .int .u64 (n : Int), .int .u64 (c : Int), .bool fn, .slice p1 nd c1, .slice p2 m c2]
  generalize World.alloc W _ = W2 at *
  have x0 : W2.cell? ⟨W.heap.size, 0, none⟩ = some (.int .u64 18) := K.cell 0
  have x3 : W2.cell? ⟨W.heap.size, 3, none⟩ = some (.int .u64 (n : Int)) := K.cell 3
  have x6 : W2.cell? ⟨W.heap.size, 6, none⟩ = some (.slice p1 nd c1) := K.cell 6
  clear K
  go_upto_region 1 with fail
  rename_i aK
  refine wp_region_seq ?_
  refine wpSeq_yield (S := fun _ => True) (v := .pointer (some ⟨W.heap.size, 6, none⟩)) (Or.inl ⟨by rfl, fun w' hw' => by go_simp⟩) trivial ?_
  simp only [AP]
  refine wpSeq_yield (S := fun w' => w' = W2) (v := .slice p1 nd c1) (Or.inl ⟨by rfl, fun w' hw' => by (rw [hw']; go_simp)⟩) rfl ?_
  simp only [AP]
  refine wpSeq_yield (S := fun _ => True) (v := .int .i64 (nd : Int)) (Or.inl ⟨by rfl, fun w' hw' => by go_simp⟩) trivial ?_
  simp only [AP]
  refine wpSeq_yield (S := fun _ => True) (v := .int .u64 (nd : Int)) (Or.inl ⟨by rfl, fun w' hw' => by (go_simp; try rfl)⟩) trivial ?_
  simp only [AP]
  refine wpSeq_yield (S := fun _ => True) (yieldsIf_assign rfl _ rfl (.int .u64 (nd : Int)) rfl) trivial ?_
  simp only [AP]
  refine wpSeq_nil ?_
  refine aK _ _ ?_
  clear aK
  go_upto_region 2 with fail
  rename_i aK
  refine wp_region_seq ?_
  refine wpSeq_yield (S := fun _ => True) (v := .pointer (some ⟨W.heap.size, 0, none⟩)) (Or.inl ⟨by rfl, fun w' hw' => by go_simp⟩) trivial ?_
  simp only [AP]
  refine wpSeq_yield (S := fun w' => w' = W2) (v := .int .u64 18) (Or.inl ⟨by rfl, fun w' hw' => by (rw [hw']; go_simp)⟩) rfl ?_
  simp only [AP]
  refine wpSeq_nil ?_
  refine aK _ _ ?_
  clear aK
  go_upto_region 16 with fail
  rename_i aK
  refine wp_region_seq ?_
  refine wpSeq_yield (S := fun _ => True) (yieldsIf_move rfl _ rfl (.func (.func 19) #[] #[.pointer (some ⟨y, 0, none⟩), .pointer (some ⟨x, 0, none⟩)]) rfl) trivial ?_
  simp only [AP]
  refine wpSeq_yield (S := fun _ => True) (v := .pointer (some ⟨W.heap.size, 0, none⟩)) (Or.inl ⟨by rfl, fun w' hw' => by go_simp⟩) trivial ?_
  simp only [AP]
  refine wpSeq_yield (S := fun w' => w' = W2) (v := .int .u64 18) (Or.inl ⟨by rfl, fun w' hw' => by (rw [hw']; go_simp)⟩) rfl ?_
  simp only [AP]
  refine wpSeq_yield (S := fun _ => True) (v := .pointer (some ⟨W.heap.size, 3, none⟩)) (Or.inl ⟨by rfl, fun w' hw' => by go_simp⟩) trivial ?_
  simp only [AP]
  refine wpSeq_yield (S := fun w' => w' = W2) (v := .int .u64 (n : Int)) (Or.inl ⟨by rfl, fun w' hw' => by (rw [hw']; go_simp)⟩) rfl ?_
  simp only [AP]
  refine wpSeq_wp rfl ?_
  unfold Oper.wp execOp
  go_simp
  have b1 := (Below.refl W2.heap.size W2).alloc (Nat.le_refl _) (.cells #[.int .u64 18, .int .u64 (n : Int)] 22)
  have O := (OwU.new W2.heap.size W2 [18, n] (Nat.le_refl _) (by simp only [List.length_cons, List.length_nil, maxLen]; omega)).su
  replace O : SU (W2.alloc (.cells #[.int .u64 18, .int .u64 (n : Int)] 22)) (.slice (some ⟨W2.heap.size, 0, none⟩) 2 2) [18, n] := O
  replace b0 := b0.trans (b1.mono b0.size)
  obtain ⟨pg, hpg⟩ : ∃ p, p = some (⟨W2.heap.size, 0, none⟩ : Addr) := ⟨_, rfl⟩
  rw [← hpg] at O ⊢
  clear b1 hpg x0 x3 x6
  generalize World.alloc W2 _ = W3 at *
  refine wpSeq_wp rfl ?_
  unfold Oper.wp execOp
  go_simp
  refine (PP.out _ _ W3 (h.out.below b0) (Nat.le_trans hB b0.size) O).mono ?_
  rintro _ w5 ⟨⟨v5, rfl⟩, P5, T5⟩
  go_simp
  refine wpSeq_nil ?_
  go_wp2
  refine bodyPost_end (results_none rfl _ _ _) rfl ?_
  exact ⟨⟨_, rfl⟩, P5, (Two.of b0).trans T5⟩
set_option maxHeartbeats 8000000 in
set_option maxRecDepth 100000 in
theorem lay17 (B x y N : Nat) (q : Option (List Nat)) (i o n c nd c1 m c2 : Nat) (fn : Bool) (p1 p2 : Option Addr) (hnd : nd ≤ 2048) (hN : N ≤ 100) (hl : ∀ z ∈ [17, i, n], z < 18446744073709551616) (W : World) (h : PS B x y N q W) (hB : B ≤ W.heap.size) :
    Calls Try.prog 21 #[.agg #[.int .u64 17, .int .u64 (i : Int), .int .u64 (o : Int), .int .u64 (n : Int), .int .u64 (c : Int), .bool fn, .slice p1 nd c1, .slice p2 m c2], .func (.func 19) #[] #[.pointer (some ⟨y, 0, none⟩), .pointer (some ⟨x, 0, none⟩)]] W fun e w' => (∃ v, e = .returned v) ∧ PS B x y (N + 3) (bindO q [17, i, n]) w' ∧ Two x y W w' := by
  have wl : IntKind.u64.wrap (nd : Int) = (nd : Int) := by rw [IntKind.wrap_u64]; omega
  have PP := Lib.hid (fun pl cl w h1 h2 h3 => pput_c B x y N q [17, i, n] hl (by omega) pl 3 cl (by decide) w h1 h2 h3)
  have xl := h.out.choose_spec.1.lt
  have yl := h.fault.lt
  replace h := Lib.hid h
  clear hl hnd hN
  go_enter Try.func21, Try.ntmps21
  go_upto_region 0 with fail
  rename_i aK
  refine wp_region_seq ?_
  refine wpSeq_wp rfl ?_
  unfold Oper.wp execOp
  go_simp
  refine wpSeq_nil ?_
  refine aK _ _ ?_
  clear aK
  have b0 := (Below.refl W.heap.size W).alloc (Nat.le_refl _) (.cells #[.int .u64 17, .int .u64 (i : Int), .int .u64 (o : Int), .int .u64 (n : Int), .int .u64 (c : Int), .bool fn, .slice p1 nd c1, .slice p2 m c2] 26)
  have K := Blk.new W 26 #[.int .u64 17, .int .u64 (i : Int), .int .u64 (o : Int), .int .u64 (n : Int), .int .u64 (c : Int), .bool fn, .slice p1 nd c1, .slice p2 m c2]
  generalize World.alloc W _ = W2 at *
  have x0 : W2.cell? ⟨W.heap.size, 0, none⟩ = some (.int .u64 17) := K.cell 0
  have x1 : W2.cell? ⟨W.heap.size, 1, none⟩ = some (.int .u64 (i : Int)) := K.cell 1
  have x3 : W2.cell? ⟨W.heap.size, 3, none⟩ = some (.int .u64 (n : Int)) := K.cell 3
  have x6 : W2.cell? ⟨W.heap.size, 6, none⟩ = some (.slice p1 nd c1) := K.cell 6
  clear K
  go_upto_region 1 with fail
  rename_i aK
  refine wp_region_seq ?_
  refine wpSeq_yield (S := fun _ => True) (v := .pointer (some ⟨W.heap.size, 6, none⟩)) (Or.inl ⟨by rfl, fun w' hw' => by go_simp⟩) trivial ?_
  simp only [AP]
  refine wpSeq_yield (S := fun w' => w' = W2) (v := .slice p1 nd c1) (Or.inl ⟨by rfl, fun w' hw' => by (rw [hw']; go_simp)⟩) rfl ?_
  simp only [AP]
  refine wpSeq_yield (S := fun _ => True) (v := .int .i64 (nd : Int)) (Or.inl ⟨by rfl, fun w' hw' => by go_simp⟩) trivial ?_
  simp only [AP]
  refine wpSeq_yield (S := fun _ => True) (v := .int .u64 (nd : Int)) (Or.inl ⟨by rfl, fun w' hw' => by (go_simp; try rfl)⟩) trivial ?_
  simp only [AP]
  refine wpSeq_yield (S := fun _ => True) (yieldsIf_assign rfl _ rfl (.int .u64 (nd : Int)) rfl) trivial ?_
  simp only [AP]
  refine wpSeq_nil ?_
  refine aK _ _ ?_
  clear aK
  go_upto_region 2 with fail
  rename_i aK
  refine wp_region_seq ?_
  refine wpSeq_yield (S := fun _ => True) (v := .pointer (some ⟨W.heap.size, 0, none⟩)) (Or.inl ⟨by rfl, fun w' hw' => by go_simp⟩) trivial ?_
  simp only [AP]
  refine wpSeq_yield (S := fun w' => w' = W2) (v := .int .u64 17) (Or.inl ⟨by rfl, fun w' hw' => by (rw [hw']; go_simp)⟩) rfl ?_
  simp only [AP]
  refine wpSeq_nil ?_
  refine aK _ _ ?_
  clear aK
  go_upto_region 18 with fail
  rename_i aK
  refine wp_region_seq ?_
  refine wpSeq_yield (S := fun _ => True) (yieldsIf_move rfl _ rfl (.func (.func 19) #[] #[.pointer (some ⟨y, 0, none⟩), .pointer (some ⟨x, 0, none⟩)]) rfl) trivial ?_
  simp only [AP]
  refine wpSeq_yield (S := fun _ => True) (v := .pointer (some ⟨W.heap.size, 0, none⟩)) (Or.inl ⟨by rfl, fun w' hw' => by go_simp⟩) trivial ?_
  simp only [AP]
  refine wpSeq_yield (S := fun w' => w' = W2) (v := .int .u64 17) (Or.inl ⟨by rfl, fun w' hw' => by (rw [hw']; go_simp)⟩) rfl ?_
  simp only [AP]
  refine wpSeq_yield (S := fun _ => True) (v := .pointer (some ⟨W.heap.size, 1, none⟩)) (Or.inl ⟨by rfl, fun w' hw' => by go_simp⟩) trivial ?_
  simp only [AP]
  refine wpSeq_yield (S := fun w' => w' = W2) (v := .int .u64 (i : Int)) (Or.inl ⟨by rfl, fun w' hw' => by (rw [hw']; go_simp)⟩) rfl ?_
  simp only [AP]
  refine wpSeq_yield (S := fun _ => True) (v := .pointer (some ⟨W.heap.size, 3, none⟩)) (Or.inl ⟨by rfl, fun w' hw' => by go_simp⟩) trivial ?_
  simp only [AP]
  refine wpSeq_yield (S := fun w' => w' = W2) (v := .int .u64 (n : Int)) (Or.inl ⟨by rfl, fun w' hw' => by (rw [hw']; go_simp)⟩) rfl ?_
  simp only [AP]
  refine wpSeq_wp rfl ?_
  unfold Oper.wp execOp
  go_simp
  have b1 := (Below.refl W2.heap.size W2).alloc (Nat.le_refl _) (.cells #[.int .u64 17, .int .u64 (i : Int), .int .u64 (n : Int)] 22)
  have O := (OwU.new W2.heap.size W2 [17, i, n] (Nat.le_refl _) (by simp only [List.length_cons, List.length_nil, maxLen]; omega)).su
  replace O : SU (W2.alloc (.cells #[.int .u64 17, .int .u64 (i : Int), .int .u64 (n : Int)] 22)) (.slice (some ⟨W2.heap.size, 0, none⟩) 3 3) [17, i, n] := O
  replace b0 := b0.trans (b1.mono b0.size)
  obtain ⟨pg, hpg⟩ : ∃ p, p = some (⟨W2.heap.size, 0, none⟩ : Addr) := ⟨_, rfl⟩
  rw [← hpg] at O ⊢
  clear b1 hpg x0 x1 x3 x6
  generalize World.alloc W2 _ = W3 at *
  refine wpSeq_wp rfl ?_
  unfold Oper.wp execOp
  go_simp
  refine (PP.out _ _ W3 (h.out.below b0) (Nat.le_trans hB b0.size) O).mono ?_
  rintro _ w5 ⟨⟨v5, rfl⟩, P5, T5⟩
  go_simp
  refine wpSeq_nil ?_
  go_wp2
  refine bodyPost_end (results_none rfl _ _ _) rfl ?_
  exact ⟨⟨_, rfl⟩, P5, (Two.of b0).trans T5⟩
set_option maxHeartbeats 8000000 in
set_option maxRecDepth 100000 in
theorem lay28 (B x y N : Nat) (q : Option (List Nat)) (i o n c nd c1 m c2 : Nat) (fn : Bool) (p1 p2 : Option Addr) (hnd : nd ≤ 2048) (hN : N ≤ 100) (hl : ∀ z ∈ [28, c, nd], z < 18446744073709551616) (W : World) (h : PS B x y N q W) (hB : B ≤ W.heap.size) :
    Calls Try.prog 21 #[.agg #[.int .u64 28, .int .u64 (i : Int), .int .u64 (o : Int), .int .u64 (n : Int), .int .u64 (c : Int), .bool fn, .slice p1 nd c1, .slice p2 m c2], .func (.func 19) #[] #[.pointer (some ⟨y, 0, none⟩), .pointer (some ⟨x, 0, none⟩)]] W fun e w' => (∃ v, e = .returned v) ∧ PS B x y (N + 3) (bindO q [28, c, nd]) w' ∧ Two x y W w' := by
  have wl : IntKind.u64.wrap (nd : Int) = (nd : Int) := by rw [IntKind.wrap_u64]; omega
  have PP := Lib.hid (fun pl cl w h1 h2 h3 => pput_c B x y N q [28, c, nd] hl (by omega) pl 3 cl (by decide) w h1 h2 h3)
  have xl := h.out.choose_spec.1.lt
  have yl := h.fault.lt
  replace h := Lib.hid h
  clear hl hnd hN
  go_enter Try.func21, Try.ntmps21
  go_upto_region 0 with fail
  rename_i aK
  refine wp_region_seq ?_
  refine wpSeq_wp rfl ?_
  unfold Oper.wp execOp
  go_simp
  refine wpSeq_nil ?_
  refine aK _ _ ?_
  clear aK
  have b0 := (Below.refl W.heap.size W).alloc (Nat.le_refl _) (.cells #[.int .u64 28, .int .u64 (i : Int), .int .u64 (o : Int), .int .u64 (n : Int), .int .u64 (c : Int), .bool fn, .slice p1 nd c1, .slice p2 m c2] 26)
  have K := Blk.new W 26 #[.int .u64 28, .int .u64 (i : Int), .int .u64 (o : Int), .int .u64 (n : Int), .int .u64 (c : Int), .bool fn, .slice p1 nd c1, .slice p2 m c2]
  generalize World.alloc W _ = W2 at *
  have x0 : W2.cell? ⟨W.heap.size, 0, none⟩ = some (.int .u64 28) := K.cell 0
  have x4 : W2.cell? ⟨W.heap.size, 4, none⟩ = some (.int .u64 (c : Int)) := K.cell 4
  have x6 : W2.cell? ⟨W.heap.size, 6, none⟩ = some (.slice p1 nd c1) := K.cell 6
  clear K
  go_upto_region 1 with fail
  rename_i aK
  refine wp_region_seq ?_
  refine wpSeq_yield (S := fun _ => True) (v := .pointer (some ⟨W.heap.size, 6, none⟩)) (Or.inl ⟨by rfl, fun w' hw' => by go_simp⟩) trivial ?_
  simp only [AP]
  refine wpSeq_yield (S := fun w' => w' = W2) (v := .slice p1 nd c1) (Or.inl ⟨by rfl, fun w' hw' => by (rw [hw']; go_simp)⟩) rfl ?_
  simp only [AP]
  refine wpSeq_yield (S := fun _ => True) (v := .int .i64 (nd : Int)) (Or.inl ⟨by rfl, fun w' hw' => by go_simp⟩) trivial ?_
  simp only [AP]
  refine wpSeq_yield (S := fun _ => True) (v := .int .u64 (nd : Int)) (Or.inl ⟨by rfl, fun w' hw' => by (go_simp; try rfl)⟩) trivial ?_
  simp only [AP]
  refine wpSeq_yield (S := fun _ => True) (yieldsIf_assign rfl _ rfl (.int .u64 (nd : Int)) rfl) trivial ?_
  simp only [AP]
  refine wpSeq_nil ?_
  refine aK _ _ ?_
  clear aK
  go_upto_region 2 with fail
  rename_i aK
  refine wp_region_seq ?_
  refine wpSeq_yield (S := fun _ => True) (v := .pointer (some ⟨W.heap.size, 0, none⟩)) (Or.inl ⟨by rfl, fun w' hw' => by go_simp⟩) trivial ?_
  simp only [AP]
  refine wpSeq_yield (S := fun w' => w' = W2) (v := .int .u64 28) (Or.inl ⟨by rfl, fun w' hw' => by (rw [hw']; go_simp)⟩) rfl ?_
  simp only [AP]
  refine wpSeq_nil ?_
  refine aK _ _ ?_
  clear aK
  go_upto_region 20 with fail
  rename_i aK
  refine wp_region_seq ?_
  refine wpSeq_yield (S := fun _ => True) (yieldsIf_move rfl _ rfl (.func (.func 19) #[] #[.pointer (some ⟨y, 0, none⟩), .pointer (some ⟨x, 0, none⟩)]) rfl) trivial ?_
  simp only [AP]
  refine wpSeq_yield (S := fun _ => True) (v := .pointer (some ⟨W.heap.size, 0, none⟩)) (Or.inl ⟨by rfl, fun w' hw' => by go_simp⟩) trivial ?_
  simp only [AP]
  refine wpSeq_yield (S := fun w' => w' = W2) (v := .int .u64 28) (Or.inl ⟨by rfl, fun w' hw' => by (rw [hw']; go_simp)⟩) rfl ?_
  simp only [AP]
  refine wpSeq_yield (S := fun _ => True) (v := .pointer (some ⟨W.heap.size, 4, none⟩)) (Or.inl ⟨by rfl, fun w' hw' => by go_simp⟩) trivial ?_
  simp only [AP]
  refine wpSeq_yield (S := fun w' => w' = W2) (v := .int .u64 (c : Int)) (Or.inl ⟨by rfl, fun w' hw' => by (rw [hw']; go_simp)⟩) rfl ?_
  simp only [AP]
  refine wpSeq_yield (S := fun _ => True) (yieldsIf_move rfl _ rfl (.int .u64 (nd : Int)) rfl) trivial ?_
  simp only [AP]
  refine wpSeq_wp rfl ?_
  unfold Oper.wp execOp
  go_simp
  have b1 := (Below.refl W2.heap.size W2).alloc (Nat.le_refl _) (.cells #[.int .u64 28, .int .u64 (c : Int), .int .u64 (nd : Int)] 22)
  have O := (OwU.new W2.heap.size W2 [28, c, nd] (Nat.le_refl _) (by simp only [List.length_cons, List.length_nil, maxLen]; omega)).su
  replace O : SU (W2.alloc (.cells #[.int .u64 28, .int .u64 (c : Int), .int .u64 (nd : Int)] 22)) (.slice (some ⟨W2.heap.size, 0, none⟩) 3 3) [28, c, nd] := O
  replace b0 := b0.trans (b1.mono b0.size)
  obtain ⟨pg, hpg⟩ : ∃ p, p = some (⟨W2.heap.size, 0, none⟩ : Addr) := ⟨_, rfl⟩
  rw [← hpg] at O ⊢
  clear b1 hpg x0 x4 x6
  generalize World.alloc W2 _ = W3 at *
  refine wpSeq_wp rfl ?_
  unfold Oper.wp execOp
  go_simp
  refine (PP.out _ _ W3 (h.out.below b0) (Nat.le_trans hB b0.size) O).mono ?_
  rintro _ w5 ⟨⟨v5, rfl⟩, P5, T5⟩
  go_simp
  refine wpSeq_nil ?_
  go_wp2
  refine bodyPost_end (results_none rfl _ _ _) rfl ?_
  exact ⟨⟨_, rfl⟩, P5, (Two.of b0).trans T5⟩
set_option maxHeartbeats 8000000 in
set_option maxRecDepth 100000 in
theorem lay0 (B x y N : Nat) (q : Option (List Nat)) (i o n c nd c1 m c2 : Nat) (fn : Bool) (p1 p2 : Option Addr) (hnd : nd ≤ 2048) (hN : N ≤ 100) (hl : ∀ z ∈ [0], z < 18446744073709551616) (W : World) (h : PS B x y N q W) (hB : B ≤ W.heap.size) :
    Calls Try.prog 21 #[.agg #[.int .u64 0, .int .u64 (i : Int), .int .u64 (o : Int), .int .u64 (n : Int), .int .u64 (c : Int), .bool fn, .slice p1 nd c1, .slice p2 m c2], .func (.func 19) #[] #[.pointer (some ⟨y, 0, none⟩), .pointer (some ⟨x, 0, none⟩)]] W fun e w' => (∃ v, e = .returned v) ∧ PS B x y (N + 1) (bindO q [0]) w' ∧ Two x y W w' := by
  have wl : IntKind.u64.wrap (nd : Int) = (nd : Int) := by rw [IntKind.wrap_u64]; omega
  have PP := Lib.hid (fun pl cl w h1 h2 h3 => pput_c B x y N q [0] hl (by omega) pl 1 cl (by decide) w h1 h2 h3)
  have xl := h.out.choose_spec.1.lt
  have yl := h.fault.lt
  replace h := Lib.hid h
  clear hl hnd hN
  go_enter Try.func21, Try.ntmps21
  go_upto_region 0 with fail
  rename_i aK
  refine wp_region_seq ?_
  refine wpSeq_wp rfl ?_
  unfold Oper.wp execOp
  go_simp
  refine wpSeq_nil ?_
  refine aK _ _ ?_
  clear aK
  have b0 := (Below.refl W.heap.size W).alloc (Nat.le_refl _) (.cells #[.int .u64 0, .int .u64 (i : Int), .int .u64 (o : Int), .int .u64 (n : Int), .int .u64 (c : Int), .bool fn, .slice p1 nd c1, .slice p2 m c2] 26)
  have K := Blk.new W 26 #[.int .u64 0, .int .u64 (i : Int), .int .u64 (o : Int), .int .u64 (n : Int), .int .u64 (c : Int), .bool fn, .slice p1 nd c1, .slice p2 m c2]
  generalize World.alloc W _ = W2 at *
  have x0 : W2.cell? ⟨W.heap.size, 0, none⟩ = some (.int .u64 0) := K.cell 0
  have x6 : W2.cell? ⟨W.heap.size, 6, none⟩ = some (.slice p1 nd c1) := K.cell 6
  clear K
  go_upto_region 1 with fail
  rename_i aK
  refine wp_region_seq ?_
  refine wpSeq_yield (S := fun _ => True) (v := .pointer (some ⟨W.heap.size, 6, none⟩)) (Or.inl ⟨by rfl, fun w' hw' => by go_simp⟩) trivial ?_
  simp only [AP]
  refine wpSeq_yield (S := fun w' => w' = W2) (v := .slice p1 nd c1) (Or.inl ⟨by rfl, fun w' hw' => by (rw [hw']; go_simp)⟩) rfl ?_
  simp only [AP]
  refine wpSeq_yield (S := fun _ => True) (v := .int .i64 (nd : Int)) (Or.inl ⟨by rfl, fun w' hw' => by go_simp⟩) trivial ?_
  simp only [AP]
  refine wpSeq_yield (S := fun _ => True) (v := .int .u64 (nd : Int)) (Or.inl ⟨by rfl, fun w' hw' => by (go_simp; try rfl)⟩) trivial ?_
  simp only [AP]
  refine wpSeq_yield (S := fun _ => True) (yieldsIf_assign rfl _ rfl (.int .u64 (nd : Int)) rfl) trivial ?_
  simp only [AP]
  refine wpSeq_nil ?_
  refine aK _ _ ?_
  clear aK
  go_upto_region 2 with fail
  rename_i aK
  refine wp_region_seq ?_
  refine wpSeq_yield (S := fun _ => True) (v := .pointer (some ⟨W.heap.size, 0, none⟩)) (Or.inl ⟨by rfl, fun w' hw' => by go_simp⟩) trivial ?_
  simp only [AP]
  refine wpSeq_yield (S := fun w' => w' = W2) (v := .int .u64 0) (Or.inl ⟨by rfl, fun w' hw' => by (rw [hw']; go_simp)⟩) rfl ?_
  simp only [AP]
  refine wpSeq_nil ?_
  refine aK _ _ ?_
  clear aK
  go_upto_region 3 with fail
  rename_i aK
  refine wp_region_seq ?_
  refine wpSeq_yield (S := fun _ => True) (yieldsIf_move rfl _ rfl (.func (.func 19) #[] #[.pointer (some ⟨y, 0, none⟩), .pointer (some ⟨x, 0, none⟩)]) rfl) trivial ?_
  simp only [AP]
  refine wpSeq_yield (S := fun _ => True) (v := .pointer (some ⟨W.heap.size, 0, none⟩)) (Or.inl ⟨by rfl, fun w' hw' => by go_simp⟩) trivial ?_
  simp only [AP]
  refine wpSeq_yield (S := fun w' => w' = W2) (v := .int .u64 0) (Or.inl ⟨by rfl, fun w' hw' => by (rw [hw']; go_simp)⟩) rfl ?_
  simp only [AP]
  refine wpSeq_wp rfl ?_
  unfold Oper.wp execOp
  go_simp
  have b1 := (Below.refl W2.heap.size W2).alloc (Nat.le_refl _) (.cells #[.int .u64 0] 22)
  have O := (OwU.new W2.heap.size W2 [0] (Nat.le_refl _) (by simp only [List.length_cons, List.length_nil, maxLen]; omega)).su
  replace O : SU (W2.alloc (.cells #[.int .u64 0] 22)) (.slice (some ⟨W2.heap.size, 0, none⟩) 1 1) [0] := O
  replace b0 := b0.trans (b1.mono b0.size)
  obtain ⟨pg, hpg⟩ : ∃ p, p = some (⟨W2.heap.size, 0, none⟩ : Addr) := ⟨_, rfl⟩
  rw [← hpg] at O ⊢
  clear b1 hpg x0 x6
  generalize World.alloc W2 _ = W3 at *
  refine wpSeq_wp rfl ?_
  unfold Oper.wp execOp
  go_simp
  refine (PP.out _ _ W3 (h.out.below b0) (Nat.le_trans hB b0.size) O).mono ?_
  rintro _ w5 ⟨⟨v5, rfl⟩, P5, T5⟩
  go_simp
  refine wpSeq_nil ?_
  go_wp2
  refine bodyPost_end (results_none rfl _ _ _) rfl ?_
  exact ⟨⟨_, rfl⟩, P5, (Two.of b0).trans T5⟩
set_option maxHeartbeats 8000000 in
set_option maxRecDepth 100000 in
theorem lay1 (B x y N : Nat) (q : Option (List Nat)) (i o n c nd c1 m c2 : Nat) (fn : Bool) (p1 p2 : Option Addr) (hnd : nd ≤ 2048) (hN : N ≤ 100) (hl : ∀ z ∈ [1], z < 18446744073709551616) (W : World) (h : PS B x y N q W) (hB : B ≤ W.heap.size) :
    Calls Try.prog 21 #[.agg #[.int .u64 1, .int .u64 (i : Int), .int .u64 (o : Int), .int .u64 (n : Int), .int .u64 (c : Int), .bool fn, .slice p1 nd c1, .slice p2 m c2], .func (.func 19) #[] #[.pointer (some ⟨y, 0, none⟩), .pointer (some ⟨x, 0, none⟩)]] W fun e w' => (∃ v, e = .returned v) ∧ PS B x y (N + 1) (bindO q [1]) w' ∧ Two x y W w' := by
  have wl : IntKind.u64.wrap (nd : Int) = (nd : Int) := by rw [IntKind.wrap_u64]; omega
  have PP := Lib.hid (fun pl cl w h1 h2 h3 => pput_c B x y N q [1] hl (by omega) pl 1 cl (by decide) w h1 h2 h3)
  have xl := h.out.choose_spec.1.lt
  have yl := h.fault.lt
  replace h := Lib.hid h
  clear hl hnd hN
  go_enter Try.func21, Try.ntmps21
  go_upto_region 0 with fail
  rename_i aK
  refine wp_region_seq ?_
  refine wpSeq_wp rfl ?_
  unfold Oper.wp execOp
  go_simp
  refine wpSeq_nil ?_
  refine aK _ _ ?_
  clear aK
  have b0 := (Below.refl W.heap.size W).alloc (Nat.le_refl _) (.cells #[.int .u64 1, .int .u64 (i : Int), .int .u64 (o : Int), .int .u64 (n : Int), .int .u64 (c : Int), .bool fn, .slice p1 nd c1, .slice p2 m c2] 26)
  have K := Blk.new W 26 #[.int .u64 1, .int .u64 (i : Int), .int .u64 (o : Int), .int .u64 (n : Int), .int .u64 (c : Int), .bool fn, .slice p1 nd c1, .slice p2 m c2]
  generalize World.alloc W _ = W2 at *
  have x0 : W2.cell? ⟨W.heap.size, 0, none⟩ = some (.int .u64 1) := K.cell 0
  have x6 : W2.cell? ⟨W.heap.size, 6, none⟩ = some (.slice p1 nd c1) := K.cell 6
  clear K
  go_upto_region 1 with fail
  rename_i aK
  refine wp_region_seq ?_
  refine wpSeq_yield (S := fun _ => True) (v := .pointer (some ⟨W.heap.size, 6, none⟩)) (Or.inl ⟨by rfl, fun w' hw' => by go_simp⟩) trivial ?_
  simp only [AP]
  refine wpSeq_yield (S := fun w' => w' = W2) (v := .slice p1 nd c1) (Or.inl ⟨by rfl, fun w' hw' => by (rw [hw']; go_simp)⟩) rfl ?_
  simp only [AP]
  refine wpSeq_yield (S := fun _ => True) (v := .int .i64 (nd : Int)) (Or.inl ⟨by rfl, fun w' hw' => by go_simp⟩) trivial ?_
  simp only [AP]
  refine wpSeq_yield (S := fun _ => True) (v := .int .u64 (nd : Int)) (Or.inl ⟨by rfl, fun w' hw' => by (go_simp; try rfl)⟩) trivial ?_
  simp only [AP]
  refine wpSeq_yield (S := fun _ => True) (yieldsIf_assign rfl _ rfl (.int .u64 (nd : Int)) rfl) trivial ?_
  simp only [AP]
  refine wpSeq_nil ?_
  refine aK _ _ ?_
  clear aK
  go_upto_region 2 with fail
  rename_i aK
  refine wp_region_seq ?_
  refine wpSeq_yield (S := fun _ => True) (v := .pointer (some ⟨W.heap.size, 0, none⟩)) (Or.inl ⟨by rfl, fun w' hw' => by go_simp⟩) trivial ?_
  simp only [AP]
  refine wpSeq_yield (S := fun w' => w' = W2) (v := .int .u64 1) (Or.inl ⟨by rfl, fun w' hw' => by (rw [hw']; go_simp)⟩) rfl ?_
  simp only [AP]
  refine wpSeq_nil ?_
  refine aK _ _ ?_
  clear aK
  go_upto_region 3 with fail
  rename_i aK
  refine wp_region_seq ?_
  refine wpSeq_yield (S := fun _ => True) (yieldsIf_move rfl _ rfl (.func (.func 19) #[] #[.pointer (some ⟨y, 0, none⟩), .pointer (some ⟨x, 0, none⟩)]) rfl) trivial ?_
  simp only [AP]
  refine wpSeq_yield (S := fun _ => True) (v := .pointer (some ⟨W.heap.size, 0, none⟩)) (Or.inl ⟨by rfl, fun w' hw' => by go_simp⟩) trivial ?_
  simp only [AP]
  refine wpSeq_yield (S := fun w' => w' = W2) (v := .int .u64 1) (Or.inl ⟨by rfl, fun w' hw' => by (rw [hw']; go_simp)⟩) rfl ?_
  simp only [AP]
  refine wpSeq_wp rfl ?_
  unfold Oper.wp execOp
  go_simp
  have b1 := (Below.refl W2.heap.size W2).alloc (Nat.le_refl _) (.cells #[.int .u64 1] 22)
  have O := (OwU.new W2.heap.size W2 [1] (Nat.le_refl _) (by simp only [List.length_cons, List.length_nil, maxLen]; omega)).su
  replace O : SU (W2.alloc (.cells #[.int .u64 1] 22)) (.slice (some ⟨W2.heap.size, 0, none⟩) 1 1) [1] := O
  replace b0 := b0.trans (b1.mono b0.size)
  obtain ⟨pg, hpg⟩ : ∃ p, p = some (⟨W2.heap.size, 0, none⟩ : Addr) := ⟨_, rfl⟩
  rw [← hpg] at O ⊢
  clear b1 hpg x0 x6
  generalize World.alloc W2 _ = W3 at *
  refine wpSeq_wp rfl ?_
  unfold Oper.wp execOp
  go_simp
  refine (PP.out _ _ W3 (h.out.below b0) (Nat.le_trans hB b0.size) O).mono ?_
  rintro _ w5 ⟨⟨v5, rfl⟩, P5, T5⟩
  go_simp
  refine wpSeq_nil ?_
  go_wp2
  refine bodyPost_end (results_none rfl _ _ _) rfl ?_
  exact ⟨⟨_, rfl⟩, P5, (Two.of b0).trans T5⟩
set_option maxHeartbeats 8000000 in
set_option maxRecDepth 100000 in
theorem lay30 (B x y N : Nat) (q : Option (List Nat)) (i o n c nd c1 m c2 : Nat) (fn : Bool) (p1 p2 : Option Addr) (hnd : nd ≤ 2048) (hN : N ≤ 100) (hl : ∀ z ∈ [30], z < 18446744073709551616) (W : World) (h : PS B x y N q W) (hB : B ≤ W.heap.size) :
    Calls Try.prog 21 #[.agg #[.int .u64 30, .int .u64 (i : Int), .int .u64 (o : Int), .int .u64 (n : Int), .int .u64 (c : Int), .bool fn, .slice p1 nd c1, .slice p2 m c2], .func (.func 19) #[] #[.pointer (some ⟨y, 0, none⟩), .pointer (some ⟨x, 0, none⟩)]] W fun e w' => (∃ v, e = .returned v) ∧ PS B x y (N + 1) (bindO q [30]) w' ∧ Two x y W w' := by
  have wl : IntKind.u64.wrap (nd : Int) = (nd : Int) := by rw [IntKind.wrap_u64]; omega
  have PP := Lib.hid (fun pl cl w h1 h2 h3 => pput_c B x y N q [30] hl (by omega) pl 1 cl (by decide) w h1 h2 h3)
  have xl := h.out.choose_spec.1.lt
  have yl := h.fault.lt
  replace h := Lib.hid h
  clear hl hnd hN
  go_enter Try.func21, Try.ntmps21
  go_upto_region 0 with fail
  rename_i aK
  refine wp_region_seq ?_
  refine wpSeq_wp rfl ?_
  unfold Oper.wp execOp
  go_simp
  refine wpSeq_nil ?_
  refine aK _ _ ?_
  clear aK
  have b0 := (Below.refl W.heap.size W).alloc (Nat.le_refl _) (.cells #[.int .u64 30, .int .u64 (i : Int), .int .u64 (o : Int), .int .u64 (n : Int), .int .u64 (c : Int), .bool fn, .slice p1 nd c1, .slice p2 m c2] 26)
  have K := Blk.new W 26 #[.int .u64 30, .int .u64 (i : Int), .int .u64 (o : Int), .int .u64 (n : Int), .int .u64 (c : Int), .bool fn, .slice p1 nd c1, .slice p2 m c2]
  generalize World.alloc W _ = W2 at *
  have x0 : W2.cell? ⟨W.heap.size, 0, none⟩ = some (.int .u64 30) := K.cell 0
  have x6 : W2.cell? ⟨W.heap.size, 6, none⟩ = some (.slice p1 nd c1) := K.cell 6
  clear K
  go_upto_region 1 with fail
  rename_i aK
  refine wp_region_seq ?_
  refine wpSeq_yield (S := fun _ => True) (v := .pointer (some ⟨W.heap.size, 6, none⟩)) (Or.inl ⟨by rfl, fun w' hw' => by go_simp⟩) trivial ?_
  simp only [AP]
  refine wpSeq_yield (S := fun w' => w' = W2) (v := .slice p1 nd c1) (Or.inl ⟨by rfl, fun w' hw' => by (rw [hw']; go_simp)⟩) rfl ?_
  simp only [AP]
  refine wpSeq_yield (S := fun _ => True) (v := .int .i64 (nd : Int)) (Or.inl ⟨by rfl, fun w' hw' => by go_simp⟩) trivial ?_
  simp only [AP]
  refine wpSeq_yield (S := fun _ => True) (v := .int .u64 (nd : Int)) (Or.inl ⟨by rfl, fun w' hw' => by (go_simp; try rfl)⟩) trivial ?_
  simp only [AP]
  refine wpSeq_yield (S := fun _ => True) (yieldsIf_assign rfl _ rfl (.int .u64 (nd : Int)) rfl) trivial ?_
  simp only [AP]
  refine wpSeq_nil ?_
  refine aK _ _ ?_
  clear aK
  go_upto_region 2 with fail
  rename_i aK
  refine wp_region_seq ?_
  refine wpSeq_yield (S := fun _ => True) (v := .pointer (some ⟨W.heap.size, 0, none⟩)) (Or.inl ⟨by rfl, fun w' hw' => by go_simp⟩) trivial ?_
  simp only [AP]
  refine wpSeq_yield (S := fun w' => w' = W2) (v := .int .u64 30) (Or.inl ⟨by rfl, fun w' hw' => by (rw [hw']; go_simp)⟩) rfl ?_
  simp only [AP]
  refine wpSeq_nil ?_
  refine aK _ _ ?_
  clear aK
  go_upto_region 3 with fail
  rename_i aK
  refine wp_region_seq ?_
  refine wpSeq_yield (S := fun _ => True) (yieldsIf_move rfl _ rfl (.func (.func 19) #[] #[.pointer (some ⟨y, 0, none⟩), .pointer (some ⟨x, 0, none⟩)]) rfl) trivial ?_
  simp only [AP]
  refine wpSeq_yield (S := fun _ => True) (v := .pointer (some ⟨W.heap.size, 0, none⟩)) (Or.inl ⟨by rfl, fun w' hw' => by go_simp⟩) trivial ?_
  simp only [AP]
  refine wpSeq_yield (S := fun w' => w' = W2) (v := .int .u64 30) (Or.inl ⟨by rfl, fun w' hw' => by (rw [hw']; go_simp)⟩) rfl ?_
  simp only [AP]
  refine wpSeq_wp rfl ?_
  unfold Oper.wp execOp
  go_simp
  have b1 := (Below.refl W2.heap.size W2).alloc (Nat.le_refl _) (.cells #[.int .u64 30] 22)
  have O := (OwU.new W2.heap.size W2 [30] (Nat.le_refl _) (by simp only [List.length_cons, List.length_nil, maxLen]; omega)).su
  replace O : SU (W2.alloc (.cells #[.int .u64 30] 22)) (.slice (some ⟨W2.heap.size, 0, none⟩) 1 1) [30] := O
  replace b0 := b0.trans (b1.mono b0.size)
  obtain ⟨pg, hpg⟩ : ∃ p, p = some (⟨W2.heap.size, 0, none⟩ : Addr) := ⟨_, rfl⟩
  rw [← hpg] at O ⊢
  clear b1 hpg x0 x6
  generalize World.alloc W2 _ = W3 at *
  refine wpSeq_wp rfl ?_
  unfold Oper.wp execOp
  go_simp
  refine (PP.out _ _ W3 (h.out.below b0) (Nat.le_trans hB b0.size) O).mono ?_
  rintro _ w5 ⟨⟨v5, rfl⟩, P5, T5⟩
  go_simp
  refine wpSeq_nil ?_
  go_wp2
  refine bodyPost_end (results_none rfl _ _ _) rfl ?_
  exact ⟨⟨_, rfl⟩, P5, (Two.of b0).trans T5⟩
end Go.Proofs.Ytdlhclakdllogaa
