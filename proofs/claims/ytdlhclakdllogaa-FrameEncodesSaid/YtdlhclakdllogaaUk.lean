/- The reference's Frame: kinds of a number (printed by gen11/uj.py). -/
import Derived.Test.YtdlhclakdllogaaUd
namespace Go.Proofs.Ytdlhclakdllogaa
open Go.RowKit

set_option maxHeartbeats 8000000 in
set_option maxRecDepth 100000 in
theorem rf16 (i o n c : Nat) (fn : Bool) (d : List Nat) (p1 p2 : Option Addr) (c1 m c2 : Nat) (W : World) (hd : SB W (.slice p1 0 c1) d) (po : Option (List Nat)) (hpo : putO [] [16, n] = po) :
    Calls Try.prog 11 #[.agg #[.int .u64 16, .int .u64 (i : Int), .int .u64 (o : Int), .int .u64 (n : Int), .int .u64 (c : Int), .bool fn, .slice p1 0 c1, .slice p2 m c2]] W fun e w' => ∃ v, e = .returned (.tuple #[v, .int .i64 (if po.isSome then 0 else 2)]) ∧ OwL W.heap.size w' v ((po.map (· ++ d)).getD []) ∧ Below W.heap.size W w' := by
  have ld := Lib.hid hd.len.1
  have CK := Lib.hid (fun w => (show Calls Try.prog 22 #[.int .u64 ((16 : Nat) : Int)] w fun e w' => e = .returned (.bool true) ∧ w' = w from known_c 16 w))
  replace hd := Lib.hid hd
  go_enter Try.func11, Try.ntmps11
  go_upto_region 0 with fail
  rename_i aK
  refine wp_region_seq ?_
  refine wpSeq_wp rfl ?_
  unfold Oper.wp execOp
  go_simp
  refine wpSeq_yield (S := fun _ => True) (yieldsIf_assign rfl _ rfl (.slice none 0 0) rfl) trivial ?_
  simp only [AP]
  refine wpSeq_yield (S := fun _ => True) (yieldsIf_assign rfl _ rfl (.int .i64 0) rfl) trivial ?_
  simp only [AP]
  refine wpSeq_nil ?_
  refine aK _ _ ?_
  clear aK
  have K := Blk.new W 26 #[.int .u64 16, .int .u64 (i : Int), .int .u64 (o : Int), .int .u64 (n : Int), .int .u64 (c : Int), .bool fn, .slice p1 0 c1, .slice p2 m c2]
  have b0 := (Below.refl W.heap.size W).alloc (Nat.le_refl _) (.cells #[.int .u64 16, .int .u64 (i : Int), .int .u64 (o : Int), .int .u64 (n : Int), .int .u64 (c : Int), .bool fn, .slice p1 0 c1, .slice p2 m c2] 26)
  generalize World.alloc W _ = W2 at *
  have b := Below.refl W2.heap.size W2
  replace hd := hd.out.below b0
  replace hd := Lib.hid hd
  have x0 : W2.cell? ⟨W.heap.size, 0, none⟩ = some (.int .u64 16) := K.cell 0
  have x1 : W2.cell? ⟨W.heap.size, 1, none⟩ = some (.int .u64 (i : Int)) := K.cell 1
  have x2 : W2.cell? ⟨W.heap.size, 2, none⟩ = some (.int .u64 (o : Int)) := K.cell 2
  have x3 : W2.cell? ⟨W.heap.size, 3, none⟩ = some (.int .u64 (n : Int)) := K.cell 3
  have x4 : W2.cell? ⟨W.heap.size, 4, none⟩ = some (.int .u64 (c : Int)) := K.cell 4
  have x5 : W2.cell? ⟨W.heap.size, 5, none⟩ = some (.bool fn) := K.cell 5
  have x6 : W2.cell? ⟨W.heap.size, 6, none⟩ = some (.slice p1 0 c1) := K.cell 6
  have x7 : W2.cell? ⟨W.heap.size, 7, none⟩ = some (.slice p2 m c2) := K.cell 7
  replace K := Lib.hid K
  go_wp2_with fail
  refine (CK.out _).mono ?_
  rintro _ w3 ⟨he, hw⟩
  subst w3
  subst he
  clear CK
  go_upto_region 8 with fail
  rename_i aK
  refine wp_region_seq ?_
  refine wpSeq_yield (S := fun _ => True) (v := .pointer (some ⟨W.heap.size, 0, none⟩)) (Or.inl ⟨by rfl, fun w' hw' => by go_simp⟩) trivial ?_
  simp only [AP]
  refine wpSeq_yield (S := fun w' => w' = W2) (v := .int .u64 16) (Or.inl ⟨by rfl, fun w' hw' => by (rw [hw']; go_simp)⟩) rfl ?_
  simp only [AP]
  refine wpSeq_wp rfl ?_
  unfold Oper.wp execOp
  go_simp
  refine wpSeq_yield (S := fun _ => True) (yieldsIf_assign rfl _ rfl (.slice (some ⟨W2.heap.size, 0, none⟩) 1 1) rfl) trivial ?_
  simp only [AP]
  refine wpSeq_nil ?_
  refine aK _ _ ?_
  clear aK x0 x1 x2 x3 x4 x5 x6 x7
  have O := OwU.new W2.heap.size W2 [16] (Nat.le_refl _) (by decide)
  replace O : OwU W2.heap.size (W2.alloc (.cells #[.int .u64 16] 22)) (.slice (some ⟨W2.heap.size, 0, none⟩) 1 1) [16] := O
  replace b := b.alloc (Nat.le_refl _) (.cells #[.int .u64 16] 22)
  obtain ⟨v5, hv5⟩ : ∃ v, v = Value.slice (some ⟨W2.heap.size, 0, none⟩) 1 1 := ⟨_, rfl⟩
  rw [← hv5] at O ⊢
  generalize World.alloc W2 _ = W3 at *
  clear hv5
  have K3 := K.out.below' b
  replace O := Lib.hid O
  have x0 : W3.cell? ⟨W.heap.size, 0, none⟩ = some (.int .u64 16) := K3.cell 0
  have x1 : W3.cell? ⟨W.heap.size, 1, none⟩ = some (.int .u64 (i : Int)) := K3.cell 1
  have x2 : W3.cell? ⟨W.heap.size, 2, none⟩ = some (.int .u64 (o : Int)) := K3.cell 2
  have x3 : W3.cell? ⟨W.heap.size, 3, none⟩ = some (.int .u64 (n : Int)) := K3.cell 3
  have x4 : W3.cell? ⟨W.heap.size, 4, none⟩ = some (.int .u64 (c : Int)) := K3.cell 4
  have x5 : W3.cell? ⟨W.heap.size, 5, none⟩ = some (.bool fn) := K3.cell 5
  have x6 : W3.cell? ⟨W.heap.size, 6, none⟩ = some (.slice p1 0 c1) := K3.cell 6
  have x7 : W3.cell? ⟨W.heap.size, 7, none⟩ = some (.slice p2 m c2) := K3.cell 7
  clear K3
  obtain ⟨v7, w7, h7, O7, B7⟩ := append_words W2.heap.size W2 W3 49 v5 [16] [n] O.out (by simp only [List.length_cons, List.length_nil]; omega) b b.size
  replace h7 : (Builtin.append_ #[49, 49] 49 #[v5, .slice (some ⟨W3.heap.size, 0, none⟩) 1 1]).run Try.prog (W3.alloc (.cells #[.int .u64 (n : Int)] 22)) = .ok v7 w7 := h7
  go_upto_region 36 with fail
  rename_i aK
  refine wp_region_seq ?_
  refine wpSeq_yield (S := fun _ => True) (yieldsIf_move rfl _ rfl (v5) rfl) trivial ?_
  simp only [AP]
  refine wpSeq_yield (S := fun _ => True) (v := .pointer (some ⟨W.heap.size, 3, none⟩)) (Or.inl ⟨by rfl, fun w' hw' => by go_simp⟩) trivial ?_
  simp only [AP]
  refine wpSeq_yield (S := fun w' => w' = W3) (v := .int .u64 (n : Int)) (Or.inl ⟨by rfl, fun w' hw' => by (rw [hw']; go_simp)⟩) rfl ?_
  simp only [AP]
  refine wpSeq_wp rfl ?_
  unfold Oper.wp execOp
  go_simp
  refine wpSeq_wp rfl (wp_append_run _ _ _ _ rfl _ _ rfl rfl v7 w7 h7 ?_)
  simp only [AP]
  refine wpSeq_yield (S := fun _ => True) (yieldsIf_assign rfl _ rfl (v7) rfl) trivial ?_
  simp only [AP]
  refine wpSeq_nil ?_
  refine aK _ _ ?_
  clear aK h7 x0 x1 x2 x3 x4 x5 x6 x7
  have K7 := K.out.below' B7
  clear O b
  have O := Lib.hid O7
  have b := B7
  clear O7 B7
  have sd := hd.out.below b
  obtain ⟨p5, c5, hv⟩ := O.out.shape
  subst hv
  have CP := Lib.hid (rputall_own [16, n] (by simp only [List.length_cons, List.length_nil]; omega) p5 _ c5 _ O.out.su)
  clear O hd
  go_upto_region 41 with fail
  rename_i aK 
  refine wp_region_seq ?_
  refine wpSeq_yield (S := fun _ => True) (yieldsIf_move rfl _ rfl (.slice p5 ([16, n] : List Nat).length c5) rfl) trivial ?_
  simp only [AP]
  refine wpSeq_wp rfl ?_
  unfold Oper.wp execOp
  go_simp
  refine CP.out.mono ?_
  rintro _ w6 ⟨v6, rfl, h6, b6⟩
  have B6 := b.trans (b6.mono b.size)
  have s6 := sd.below b6
  have K6 := K.out.below' B6
  have hb := b.size
  have lr := fun r h => putO_len (l := [16, n]) (r := r) h (by simp only [List.length_cons, List.length_nil]; omega)
  rw [hpo] at h6 lr ⊢
  clear hpo CP sd b6 b K
  cases po with
  | none =>
    clear h6 s6 lr K6
    go_simp
    refine wpSeq_yield (S := fun _ => True) (yieldsIf_move rfl _ rfl (.tuple #[v6, .bool false]) rfl) trivial ?_
    simp only [AP]
    refine wpSeq_yield (S := fun _ => True) (v := v6) (Or.inl ⟨by rfl, fun w' hw' => by go_simp⟩) trivial ?_
    simp only [AP]
    refine wpSeq_yield (S := fun _ => True) (v := .bool false) (Or.inl ⟨by rfl, fun w' hw' => by go_simp⟩) trivial ?_
    simp only [AP]
    refine wpSeq_yield (S := fun _ => True) (yieldsIf_assign rfl _ rfl (v6) rfl) trivial ?_
    simp only [AP]
    refine wpSeq_yield (S := fun _ => True) (yieldsIf_assign rfl _ rfl (.bool false) rfl) trivial ?_
    simp only [AP]
    refine wpSeq_nil ?_
    refine aK _ _ ?_
    clear aK
    go_wp2
    refine bodyPost_ret (results_tmp2 rfl _ _ _) rfl ?_
    exact ⟨_, rfl, OwL.nil _ _, b0.trans (B6.mono b0.size)⟩
  | some r =>
    have O6 := h6 r rfl
    have k6 : w6.cell? ⟨W.heap.size, 6, none⟩ = some (.slice p1 0 c1) := K6.cell 6
    obtain ⟨v7, w7, h7, O7, B7⟩ := append_more W2.heap.size W2 w6 23 v6 (.slice p1 0 c1) r d (O6.mono hb) s6 (by have := lr r rfl; have := ld.out; omega) B6 B6.size
    clear h6 s6 lr K6 O6 B6
    go_simp
    refine wpSeq_yield (S := fun _ => True) (yieldsIf_move rfl _ rfl (.tuple #[v6, .bool true]) rfl) trivial ?_
    simp only [AP]
    refine wpSeq_yield (S := fun _ => True) (v := v6) (Or.inl ⟨by rfl, fun w' hw' => by go_simp⟩) trivial ?_
    simp only [AP]
    refine wpSeq_yield (S := fun _ => True) (v := .bool true) (Or.inl ⟨by rfl, fun w' hw' => by go_simp⟩) trivial ?_
    simp only [AP]
    refine wpSeq_yield (S := fun _ => True) (yieldsIf_assign rfl _ rfl (v6) rfl) trivial ?_
    simp only [AP]
    refine wpSeq_yield (S := fun _ => True) (yieldsIf_assign rfl _ rfl (.bool true) rfl) trivial ?_
    simp only [AP]
    refine wpSeq_nil ?_
    refine aK _ _ ?_
    clear aK
    go_upto_region 44 with fail
    rename_i aK
    refine wp_region_seq ?_
    refine wpSeq_yield (S := fun _ => True) (yieldsIf_move rfl _ rfl (v6) rfl) trivial ?_
    simp only [AP]
    refine wpSeq_yield (S := fun _ => True) (v := .pointer (some ⟨W.heap.size, 6, none⟩)) (Or.inl ⟨by rfl, fun w' hw' => by go_simp⟩) trivial ?_
    simp only [AP]
    refine wpSeq_yield (S := fun w' => w' = w6) (v := .slice p1 0 c1) (Or.inl ⟨by rfl, fun w' hw' => by (rw [hw']; go_simp)⟩) rfl ?_
    simp only [AP]
    refine wpSeq_wp rfl (wp_append_run _ _ _ _ rfl _ _ rfl rfl v7 w7 h7 ?_)
    simp only [AP]
    refine wpSeq_yield (S := fun _ => True) (yieldsIf_assign rfl _ rfl (v7) rfl) trivial ?_
    simp only [AP]
    refine wpSeq_yield (S := fun _ => True) (yieldsIf_assign rfl _ rfl (.int .i64 0) rfl) trivial ?_
    simp only [AP]
    refine wpSeq_nil ?_
    refine aK _ _ ?_
    clear aK k6 h7
    go_wp2
    refine bodyPost_ret (results_tmp2 rfl _ _ _) rfl ?_
    exact ⟨_, rfl, O7.mono b0.size, b0.trans (B7.mono b0.size)⟩
set_option maxHeartbeats 8000000 in
set_option maxRecDepth 100000 in
theorem rf18 (i o n c : Nat) (fn : Bool) (d : List Nat) (p1 p2 : Option Addr) (c1 m c2 : Nat) (W : World) (hd : SB W (.slice p1 0 c1) d) (po : Option (List Nat)) (hpo : putO [] [18, n] = po) :
    Calls Try.prog 11 #[.agg #[.int .u64 18, .int .u64 (i : Int), .int .u64 (o : Int), .int .u64 (n : Int), .int .u64 (c : Int), .bool fn, .slice p1 0 c1, .slice p2 m c2]] W fun e w' => ∃ v, e = .returned (.tuple #[v, .int .i64 (if po.isSome then 0 else 2)]) ∧ OwL W.heap.size w' v ((po.map (· ++ d)).getD []) ∧ Below W.heap.size W w' := by
  have ld := Lib.hid hd.len.1
  have CK := Lib.hid (fun w => (show Calls Try.prog 22 #[.int .u64 ((18 : Nat) : Int)] w fun e w' => e = .returned (.bool true) ∧ w' = w from known_c 18 w))
  replace hd := Lib.hid hd
  go_enter Try.func11, Try.ntmps11
  go_upto_region 0 with fail
  rename_i aK
  refine wp_region_seq ?_
  refine wpSeq_wp rfl ?_
  unfold Oper.wp execOp
  go_simp
  refine wpSeq_yield (S := fun _ => True) (yieldsIf_assign rfl _ rfl (.slice none 0 0) rfl) trivial ?_
  simp only [AP]
  refine wpSeq_yield (S := fun _ => True) (yieldsIf_assign rfl _ rfl (.int .i64 0) rfl) trivial ?_
  simp only [AP]
  refine wpSeq_nil ?_
  refine aK _ _ ?_
  clear aK
  have K := Blk.new W 26 #[.int .u64 18, .int .u64 (i : Int), .int .u64 (o : Int), .int .u64 (n : Int), .int .u64 (c : Int), .bool fn, .slice p1 0 c1, .slice p2 m c2]
  have b0 := (Below.refl W.heap.size W).alloc (Nat.le_refl _) (.cells #[.int .u64 18, .int .u64 (i : Int), .int .u64 (o : Int), .int .u64 (n : Int), .int .u64 (c : Int), .bool fn, .slice p1 0 c1, .slice p2 m c2] 26)
  generalize World.alloc W _ = W2 at *
  have b := Below.refl W2.heap.size W2
  replace hd := hd.out.below b0
  replace hd := Lib.hid hd
  have x0 : W2.cell? ⟨W.heap.size, 0, none⟩ = some (.int .u64 18) := K.cell 0
  have x1 : W2.cell? ⟨W.heap.size, 1, none⟩ = some (.int .u64 (i : Int)) := K.cell 1
  have x2 : W2.cell? ⟨W.heap.size, 2, none⟩ = some (.int .u64 (o : Int)) := K.cell 2
  have x3 : W2.cell? ⟨W.heap.size, 3, none⟩ = some (.int .u64 (n : Int)) := K.cell 3
  have x4 : W2.cell? ⟨W.heap.size, 4, none⟩ = some (.int .u64 (c : Int)) := K.cell 4
  have x5 : W2.cell? ⟨W.heap.size, 5, none⟩ = some (.bool fn) := K.cell 5
  have x6 : W2.cell? ⟨W.heap.size, 6, none⟩ = some (.slice p1 0 c1) := K.cell 6
  have x7 : W2.cell? ⟨W.heap.size, 7, none⟩ = some (.slice p2 m c2) := K.cell 7
  replace K := Lib.hid K
  go_wp2_with fail
  refine (CK.out _).mono ?_
  rintro _ w3 ⟨he, hw⟩
  subst w3
  subst he
  clear CK
  go_upto_region 8 with fail
  rename_i aK
  refine wp_region_seq ?_
  refine wpSeq_yield (S := fun _ => True) (v := .pointer (some ⟨W.heap.size, 0, none⟩)) (Or.inl ⟨by rfl, fun w' hw' => by go_simp⟩) trivial ?_
  simp only [AP]
  refine wpSeq_yield (S := fun w' => w' = W2) (v := .int .u64 18) (Or.inl ⟨by rfl, fun w' hw' => by (rw [hw']; go_simp)⟩) rfl ?_
  simp only [AP]
  refine wpSeq_wp rfl ?_
  unfold Oper.wp execOp
  go_simp
  refine wpSeq_yield (S := fun _ => True) (yieldsIf_assign rfl _ rfl (.slice (some ⟨W2.heap.size, 0, none⟩) 1 1) rfl) trivial ?_
  simp only [AP]
  refine wpSeq_nil ?_
  refine aK _ _ ?_
  clear aK x0 x1 x2 x3 x4 x5 x6 x7
  have O := OwU.new W2.heap.size W2 [18] (Nat.le_refl _) (by decide)
  replace O : OwU W2.heap.size (W2.alloc (.cells #[.int .u64 18] 22)) (.slice (some ⟨W2.heap.size, 0, none⟩) 1 1) [18] := O
  replace b := b.alloc (Nat.le_refl _) (.cells #[.int .u64 18] 22)
  obtain ⟨v5, hv5⟩ : ∃ v, v = Value.slice (some ⟨W2.heap.size, 0, none⟩) 1 1 := ⟨_, rfl⟩
  rw [← hv5] at O ⊢
  generalize World.alloc W2 _ = W3 at *
  clear hv5
  have K3 := K.out.below' b
  replace O := Lib.hid O
  have x0 : W3.cell? ⟨W.heap.size, 0, none⟩ = some (.int .u64 18) := K3.cell 0
  have x1 : W3.cell? ⟨W.heap.size, 1, none⟩ = some (.int .u64 (i : Int)) := K3.cell 1
  have x2 : W3.cell? ⟨W.heap.size, 2, none⟩ = some (.int .u64 (o : Int)) := K3.cell 2
  have x3 : W3.cell? ⟨W.heap.size, 3, none⟩ = some (.int .u64 (n : Int)) := K3.cell 3
  have x4 : W3.cell? ⟨W.heap.size, 4, none⟩ = some (.int .u64 (c : Int)) := K3.cell 4
  have x5 : W3.cell? ⟨W.heap.size, 5, none⟩ = some (.bool fn) := K3.cell 5
  have x6 : W3.cell? ⟨W.heap.size, 6, none⟩ = some (.slice p1 0 c1) := K3.cell 6
  have x7 : W3.cell? ⟨W.heap.size, 7, none⟩ = some (.slice p2 m c2) := K3.cell 7
  clear K3
  obtain ⟨v7, w7, h7, O7, B7⟩ := append_words W2.heap.size W2 W3 49 v5 [18] [n] O.out (by simp only [List.length_cons, List.length_nil]; omega) b b.size
  replace h7 : (Builtin.append_ #[49, 49] 49 #[v5, .slice (some ⟨W3.heap.size, 0, none⟩) 1 1]).run Try.prog (W3.alloc (.cells #[.int .u64 (n : Int)] 22)) = .ok v7 w7 := h7
  go_upto_region 36 with fail
  rename_i aK
  refine wp_region_seq ?_
  refine wpSeq_yield (S := fun _ => True) (yieldsIf_move rfl _ rfl (v5) rfl) trivial ?_
  simp only [AP]
  refine wpSeq_yield (S := fun _ => True) (v := .pointer (some ⟨W.heap.size, 3, none⟩)) (Or.inl ⟨by rfl, fun w' hw' => by go_simp⟩) trivial ?_
  simp only [AP]
  refine wpSeq_yield (S := fun w' => w' = W3) (v := .int .u64 (n : Int)) (Or.inl ⟨by rfl, fun w' hw' => by (rw [hw']; go_simp)⟩) rfl ?_
  simp only [AP]
  refine wpSeq_wp rfl ?_
  unfold Oper.wp execOp
  go_simp
  refine wpSeq_wp rfl (wp_append_run _ _ _ _ rfl _ _ rfl rfl v7 w7 h7 ?_)
  simp only [AP]
  refine wpSeq_yield (S := fun _ => True) (yieldsIf_assign rfl _ rfl (v7) rfl) trivial ?_
  simp only [AP]
  refine wpSeq_nil ?_
  refine aK _ _ ?_
  clear aK h7 x0 x1 x2 x3 x4 x5 x6 x7
  have K7 := K.out.below' B7
  clear O b
  have O := Lib.hid O7
  have b := B7
  clear O7 B7
  have sd := hd.out.below b
  obtain ⟨p5, c5, hv⟩ := O.out.shape
  subst hv
  have CP := Lib.hid (rputall_own [18, n] (by simp only [List.length_cons, List.length_nil]; omega) p5 _ c5 _ O.out.su)
  clear O hd
  go_upto_region 41 with fail
  rename_i aK 
  refine wp_region_seq ?_
  refine wpSeq_yield (S := fun _ => True) (yieldsIf_move rfl _ rfl (.slice p5 ([18, n] : List Nat).length c5) rfl) trivial ?_
  simp only [AP]
  refine wpSeq_wp rfl ?_
  unfold Oper.wp execOp
  go_simp
  refine CP.out.mono ?_
  rintro _ w6 ⟨v6, rfl, h6, b6⟩
  have B6 := b.trans (b6.mono b.size)
  have s6 := sd.below b6
  have K6 := K.out.below' B6
  have hb := b.size
  have lr := fun r h => putO_len (l := [18, n]) (r := r) h (by simp only [List.length_cons, List.length_nil]; omega)
  rw [hpo] at h6 lr ⊢
  clear hpo CP sd b6 b K
  cases po with
  | none =>
    clear h6 s6 lr K6
    go_simp
    refine wpSeq_yield (S := fun _ => True) (yieldsIf_move rfl _ rfl (.tuple #[v6, .bool false]) rfl) trivial ?_
    simp only [AP]
    refine wpSeq_yield (S := fun _ => True) (v := v6) (Or.inl ⟨by rfl, fun w' hw' => by go_simp⟩) trivial ?_
    simp only [AP]
    refine wpSeq_yield (S := fun _ => True) (v := .bool false) (Or.inl ⟨by rfl, fun w' hw' => by go_simp⟩) trivial ?_
    simp only [AP]
    refine wpSeq_yield (S := fun _ => True) (yieldsIf_assign rfl _ rfl (v6) rfl) trivial ?_
    simp only [AP]
    refine wpSeq_yield (S := fun _ => True) (yieldsIf_assign rfl _ rfl (.bool false) rfl) trivial ?_
    simp only [AP]
    refine wpSeq_nil ?_
    refine aK _ _ ?_
    clear aK
    go_wp2
    refine bodyPost_ret (results_tmp2 rfl _ _ _) rfl ?_
    exact ⟨_, rfl, OwL.nil _ _, b0.trans (B6.mono b0.size)⟩
  | some r =>
    have O6 := h6 r rfl
    have k6 : w6.cell? ⟨W.heap.size, 6, none⟩ = some (.slice p1 0 c1) := K6.cell 6
    obtain ⟨v7, w7, h7, O7, B7⟩ := append_more W2.heap.size W2 w6 23 v6 (.slice p1 0 c1) r d (O6.mono hb) s6 (by have := lr r rfl; have := ld.out; omega) B6 B6.size
    clear h6 s6 lr K6 O6 B6
    go_simp
    refine wpSeq_yield (S := fun _ => True) (yieldsIf_move rfl _ rfl (.tuple #[v6, .bool true]) rfl) trivial ?_
    simp only [AP]
    refine wpSeq_yield (S := fun _ => True) (v := v6) (Or.inl ⟨by rfl, fun w' hw' => by go_simp⟩) trivial ?_
    simp only [AP]
    refine wpSeq_yield (S := fun _ => True) (v := .bool true) (Or.inl ⟨by rfl, fun w' hw' => by go_simp⟩) trivial ?_
    simp only [AP]
    refine wpSeq_yield (S := fun _ => True) (yieldsIf_assign rfl _ rfl (v6) rfl) trivial ?_
    simp only [AP]
    refine wpSeq_yield (S := fun _ => True) (yieldsIf_assign rfl _ rfl (.bool true) rfl) trivial ?_
    simp only [AP]
    refine wpSeq_nil ?_
    refine aK _ _ ?_
    clear aK
    go_upto_region 44 with fail
    rename_i aK
    refine wp_region_seq ?_
    refine wpSeq_yield (S := fun _ => True) (yieldsIf_move rfl _ rfl (v6) rfl) trivial ?_
    simp only [AP]
    refine wpSeq_yield (S := fun _ => True) (v := .pointer (some ⟨W.heap.size, 6, none⟩)) (Or.inl ⟨by rfl, fun w' hw' => by go_simp⟩) trivial ?_
    simp only [AP]
    refine wpSeq_yield (S := fun w' => w' = w6) (v := .slice p1 0 c1) (Or.inl ⟨by rfl, fun w' hw' => by (rw [hw']; go_simp)⟩) rfl ?_
    simp only [AP]
    refine wpSeq_wp rfl (wp_append_run _ _ _ _ rfl _ _ rfl rfl v7 w7 h7 ?_)
    simp only [AP]
    refine wpSeq_yield (S := fun _ => True) (yieldsIf_assign rfl _ rfl (v7) rfl) trivial ?_
    simp only [AP]
    refine wpSeq_yield (S := fun _ => True) (yieldsIf_assign rfl _ rfl (.int .i64 0) rfl) trivial ?_
    simp only [AP]
    refine wpSeq_nil ?_
    refine aK _ _ ?_
    clear aK k6 h7
    go_wp2
    refine bodyPost_ret (results_tmp2 rfl _ _ _) rfl ?_
    exact ⟨_, rfl, O7.mono b0.size, b0.trans (B7.mono b0.size)⟩
set_option maxHeartbeats 8000000 in
set_option maxRecDepth 100000 in
theorem rf0 (i o n c : Nat) (fn : Bool) (d : List Nat) (p1 p2 : Option Addr) (c1 m c2 : Nat) (W : World) (hd : SB W (.slice p1 0 c1) d) (po : Option (List Nat)) (hpo : putO [] [0] = po) :
    Calls Try.prog 11 #[.agg #[.int .u64 0, .int .u64 (i : Int), .int .u64 (o : Int), .int .u64 (n : Int), .int .u64 (c : Int), .bool fn, .slice p1 0 c1, .slice p2 m c2]] W fun e w' => ∃ v, e = .returned (.tuple #[v, .int .i64 (if po.isSome then 0 else 2)]) ∧ OwL W.heap.size w' v ((po.map (· ++ d)).getD []) ∧ Below W.heap.size W w' := by
  have ld := Lib.hid hd.len.1
  have CK := Lib.hid (fun w => (show Calls Try.prog 22 #[.int .u64 ((0 : Nat) : Int)] w fun e w' => e = .returned (.bool true) ∧ w' = w from known_c 0 w))
  replace hd := Lib.hid hd
  go_enter Try.func11, Try.ntmps11
  go_upto_region 0 with fail
  rename_i aK
  refine wp_region_seq ?_
  refine wpSeq_wp rfl ?_
  unfold Oper.wp execOp
  go_simp
  refine wpSeq_yield (S := fun _ => True) (yieldsIf_assign rfl _ rfl (.slice none 0 0) rfl) trivial ?_
  simp only [AP]
  refine wpSeq_yield (S := fun _ => True) (yieldsIf_assign rfl _ rfl (.int .i64 0) rfl) trivial ?_
  simp only [AP]
  refine wpSeq_nil ?_
  refine aK _ _ ?_
  clear aK
  have K := Blk.new W 26 #[.int .u64 0, .int .u64 (i : Int), .int .u64 (o : Int), .int .u64 (n : Int), .int .u64 (c : Int), .bool fn, .slice p1 0 c1, .slice p2 m c2]
  have b0 := (Below.refl W.heap.size W).alloc (Nat.le_refl _) (.cells #[.int .u64 0, .int .u64 (i : Int), .int .u64 (o : Int), .int .u64 (n : Int), .int .u64 (c : Int), .bool fn, .slice p1 0 c1, .slice p2 m c2] 26)
  generalize World.alloc W _ = W2 at *
  have b := Below.refl W2.heap.size W2
  replace hd := hd.out.below b0
  replace hd := Lib.hid hd
  have x0 : W2.cell? ⟨W.heap.size, 0, none⟩ = some (.int .u64 0) := K.cell 0
  have x1 : W2.cell? ⟨W.heap.size, 1, none⟩ = some (.int .u64 (i : Int)) := K.cell 1
  have x2 : W2.cell? ⟨W.heap.size, 2, none⟩ = some (.int .u64 (o : Int)) := K.cell 2
  have x3 : W2.cell? ⟨W.heap.size, 3, none⟩ = some (.int .u64 (n : Int)) := K.cell 3
  have x4 : W2.cell? ⟨W.heap.size, 4, none⟩ = some (.int .u64 (c : Int)) := K.cell 4
  have x5 : W2.cell? ⟨W.heap.size, 5, none⟩ = some (.bool fn) := K.cell 5
  have x6 : W2.cell? ⟨W.heap.size, 6, none⟩ = some (.slice p1 0 c1) := K.cell 6
  have x7 : W2.cell? ⟨W.heap.size, 7, none⟩ = some (.slice p2 m c2) := K.cell 7
  replace K := Lib.hid K
  go_wp2_with fail
  refine (CK.out _).mono ?_
  rintro _ w3 ⟨he, hw⟩
  subst w3
  subst he
  clear CK
  go_upto_region 8 with fail
  rename_i aK
  refine wp_region_seq ?_
  refine wpSeq_yield (S := fun _ => True) (v := .pointer (some ⟨W.heap.size, 0, none⟩)) (Or.inl ⟨by rfl, fun w' hw' => by go_simp⟩) trivial ?_
  simp only [AP]
  refine wpSeq_yield (S := fun w' => w' = W2) (v := .int .u64 0) (Or.inl ⟨by rfl, fun w' hw' => by (rw [hw']; go_simp)⟩) rfl ?_
  simp only [AP]
  refine wpSeq_wp rfl ?_
  unfold Oper.wp execOp
  go_simp
  refine wpSeq_yield (S := fun _ => True) (yieldsIf_assign rfl _ rfl (.slice (some ⟨W2.heap.size, 0, none⟩) 1 1) rfl) trivial ?_
  simp only [AP]
  refine wpSeq_nil ?_
  refine aK _ _ ?_
  clear aK x0 x1 x2 x3 x4 x5 x6 x7
  have O := OwU.new W2.heap.size W2 [0] (Nat.le_refl _) (by decide)
  replace O : OwU W2.heap.size (W2.alloc (.cells #[.int .u64 0] 22)) (.slice (some ⟨W2.heap.size, 0, none⟩) 1 1) [0] := O
  replace b := b.alloc (Nat.le_refl _) (.cells #[.int .u64 0] 22)
  obtain ⟨v5, hv5⟩ : ∃ v, v = Value.slice (some ⟨W2.heap.size, 0, none⟩) 1 1 := ⟨_, rfl⟩
  rw [← hv5] at O ⊢
  generalize World.alloc W2 _ = W3 at *
  clear hv5
  have K3 := K.out.below' b
  replace O := Lib.hid O
  have x0 : W3.cell? ⟨W.heap.size, 0, none⟩ = some (.int .u64 0) := K3.cell 0
  have x1 : W3.cell? ⟨W.heap.size, 1, none⟩ = some (.int .u64 (i : Int)) := K3.cell 1
  have x2 : W3.cell? ⟨W.heap.size, 2, none⟩ = some (.int .u64 (o : Int)) := K3.cell 2
  have x3 : W3.cell? ⟨W.heap.size, 3, none⟩ = some (.int .u64 (n : Int)) := K3.cell 3
  have x4 : W3.cell? ⟨W.heap.size, 4, none⟩ = some (.int .u64 (c : Int)) := K3.cell 4
  have x5 : W3.cell? ⟨W.heap.size, 5, none⟩ = some (.bool fn) := K3.cell 5
  have x6 : W3.cell? ⟨W.heap.size, 6, none⟩ = some (.slice p1 0 c1) := K3.cell 6
  have x7 : W3.cell? ⟨W.heap.size, 7, none⟩ = some (.slice p2 m c2) := K3.cell 7
  clear K3
  have sd := hd.out.below b
  obtain ⟨p5, c5, hv⟩ := O.out.shape
  subst hv
  have CP := Lib.hid (rputall_own [0] (by simp only [List.length_cons, List.length_nil]; omega) p5 _ c5 _ O.out.su)
  clear O hd
  go_upto_region 41 with fail
  rename_i aK 
  refine wp_region_seq ?_
  refine wpSeq_yield (S := fun _ => True) (yieldsIf_move rfl _ rfl (.slice p5 ([0] : List Nat).length c5) rfl) trivial ?_
  simp only [AP]
  refine wpSeq_wp rfl ?_
  unfold Oper.wp execOp
  go_simp
  refine CP.out.mono ?_
  rintro _ w6 ⟨v6, rfl, h6, b6⟩
  have B6 := b.trans (b6.mono b.size)
  have s6 := sd.below b6
  have K6 := K.out.below' B6
  have hb := b.size
  have lr := fun r h => putO_len (l := [0]) (r := r) h (by simp only [List.length_cons, List.length_nil]; omega)
  rw [hpo] at h6 lr ⊢
  clear hpo CP sd b6 b K
  cases po with
  | none =>
    clear h6 s6 lr K6
    go_simp
    refine wpSeq_yield (S := fun _ => True) (yieldsIf_move rfl _ rfl (.tuple #[v6, .bool false]) rfl) trivial ?_
    simp only [AP]
    refine wpSeq_yield (S := fun _ => True) (v := v6) (Or.inl ⟨by rfl, fun w' hw' => by go_simp⟩) trivial ?_
    simp only [AP]
    refine wpSeq_yield (S := fun _ => True) (v := .bool false) (Or.inl ⟨by rfl, fun w' hw' => by go_simp⟩) trivial ?_
    simp only [AP]
    refine wpSeq_yield (S := fun _ => True) (yieldsIf_assign rfl _ rfl (v6) rfl) trivial ?_
    simp only [AP]
    refine wpSeq_yield (S := fun _ => True) (yieldsIf_assign rfl _ rfl (.bool false) rfl) trivial ?_
    simp only [AP]
    refine wpSeq_nil ?_
    refine aK _ _ ?_
    clear aK
    go_wp2
    refine bodyPost_ret (results_tmp2 rfl _ _ _) rfl ?_
    exact ⟨_, rfl, OwL.nil _ _, b0.trans (B6.mono b0.size)⟩
  | some r =>
    have O6 := h6 r rfl
    have k6 : w6.cell? ⟨W.heap.size, 6, none⟩ = some (.slice p1 0 c1) := K6.cell 6
    obtain ⟨v7, w7, h7, O7, B7⟩ := append_more W2.heap.size W2 w6 23 v6 (.slice p1 0 c1) r d (O6.mono hb) s6 (by have := lr r rfl; have := ld.out; omega) B6 B6.size
    clear h6 s6 lr K6 O6 B6
    go_simp
    refine wpSeq_yield (S := fun _ => True) (yieldsIf_move rfl _ rfl (.tuple #[v6, .bool true]) rfl) trivial ?_
    simp only [AP]
    refine wpSeq_yield (S := fun _ => True) (v := v6) (Or.inl ⟨by rfl, fun w' hw' => by go_simp⟩) trivial ?_
    simp only [AP]
    refine wpSeq_yield (S := fun _ => True) (v := .bool true) (Or.inl ⟨by rfl, fun w' hw' => by go_simp⟩) trivial ?_
    simp only [AP]
    refine wpSeq_yield (S := fun _ => True) (yieldsIf_assign rfl _ rfl (v6) rfl) trivial ?_
    simp only [AP]
    refine wpSeq_yield (S := fun _ => True) (yieldsIf_assign rfl _ rfl (.bool true) rfl) trivial ?_
    simp only [AP]
    refine wpSeq_nil ?_
    refine aK _ _ ?_
    clear aK
    go_upto_region 44 with fail
    rename_i aK
    refine wp_region_seq ?_
    refine wpSeq_yield (S := fun _ => True) (yieldsIf_move rfl _ rfl (v6) rfl) trivial ?_
    simp only [AP]
    refine wpSeq_yield (S := fun _ => True) (v := .pointer (some ⟨W.heap.size, 6, none⟩)) (Or.inl ⟨by rfl, fun w' hw' => by go_simp⟩) trivial ?_
    simp only [AP]
    refine wpSeq_yield (S := fun w' => w' = w6) (v := .slice p1 0 c1) (Or.inl ⟨by rfl, fun w' hw' => by (rw [hw']; go_simp)⟩) rfl ?_
    simp only [AP]
    refine wpSeq_wp rfl (wp_append_run _ _ _ _ rfl _ _ rfl rfl v7 w7 h7 ?_)
    simp only [AP]
    refine wpSeq_yield (S := fun _ => True) (yieldsIf_assign rfl _ rfl (v7) rfl) trivial ?_
    simp only [AP]
    refine wpSeq_yield (S := fun _ => True) (yieldsIf_assign rfl _ rfl (.int .i64 0) rfl) trivial ?_
    simp only [AP]
    refine wpSeq_nil ?_
    refine aK _ _ ?_
    clear aK k6 h7
    go_wp2
    refine bodyPost_ret (results_tmp2 rfl _ _ _) rfl ?_
    exact ⟨_, rfl, O7.mono b0.size, b0.trans (B7.mono b0.size)⟩
end Go.Proofs.Ytdlhclakdllogaa
