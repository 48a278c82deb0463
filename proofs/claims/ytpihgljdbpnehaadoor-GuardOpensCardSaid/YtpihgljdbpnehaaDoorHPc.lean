/- The program's long heads up to the number (printed by gen12/pb.py). -/
import Derived.Test.YtpihgljdbpnehaaDoorHPb
namespace Go.Proofs.YtpihgljdbpnehaaDoor
open Go.RowKit
set_option maxHeartbeats 8000000 in
set_option maxRecDepth 100000 in
theorem lay_zero (to fr : List Nat) (k t : Nat) (m8 : to.length = 8) (n8 : fr.length = 8) (k4 : 1 ≤ k ∧ k ≤ 4) (t4 : t ≤ 1204) (vt vf : Value) (W : World) (h1 : SB W vt to) (h2 : SB W vf fr) :
  Calls Tryd.prog 45 #[hdV 0 vt vf, .int .i64 (k : Int), .int .i64 (t : Int)] W fun e w' => ∃ v, e = .returned v ∧ OwL W.heap.size w' v ((191 + k) :: longB 0 to fr t) ∧ Below W.heap.size W w' := by
 obtain ⟨p1, c1, rfl⟩ := h1.shape
 obtain ⟨p2, c2, rfl⟩ := h2.shape
 show Calls Tryd.prog 45 #[.agg #[.int .i64 0, .slice p1 to.length c1, .slice p2 fr.length c2], .int .i64 (k : Int), .int .i64 (t : Int)] W _
 rw [m8] at h1 ⊢
 rw [n8] at h2 ⊢
 go_enter Tryd.func45, Tryd.ntmps45
 go_upto_region 0 with fail
 rename_i aK
 refine wp_region_seq ?_
 refine wpSeq_wp rfl ?_
 unfold Oper.wp execOp
 go_simp
 refine sas (.slice none 0 0) rfl rfl rfl ?_
 simp only [AP]
 refine wpSeq_nil ?_
 refine aK _ _ ?_
 clear aK
 have K := Blk.new W 42 #[.int .i64 0, .slice p1 8 c1, .slice p2 8 c2]
 have b := (Below.refl W.heap.size W).alloc (Nat.le_refl _) (.cells #[.int .i64 0, .slice p1 8 c1, .slice p2 8 c2] 42)
 have zz : W.heap.size < (W.alloc (.cells #[.int .i64 0, .slice p1 8 c1, .slice p2 8 c2] 42)).heap.size := by rw [size_alloc1]; omega
 generalize World.alloc W _ = W2 at *
 have x0 : W2.cell? ⟨W.heap.size, 0, none⟩ = some (.int .i64 0) := K.cell 0
 have x1 : W2.cell? ⟨W.heap.size, 1, none⟩ = some (.slice p1 8 c1) := K.cell 1
 have x2 : W2.cell? ⟨W.heap.size, 2, none⟩ = some (.slice p2 8 c2) := K.cell 2
 replace h1 := Lib.hid (h1.below b)
 replace h2 := Lib.hid (h2.below b)
 replace K := Lib.hid K
 replace b := Lib.hid b
 have LM := Lib.hid (And.intro m8 n8)
 obtain ⟨x, hx⟩ : ∃ x, 191 + k = x := ⟨_, rfl⟩
 obtain ⟨y, hy⟩ : ∃ y, 191 + k = y := ⟨_, rfl⟩
 have Q := Lib.hid (show (k = 1 ∧ x = 192 ∧ y = 192) ∨ (k = 2 ∧ x = 193 ∧ y = 193) ∨ (k = 3 ∧ x = 194 ∧ y = 194) ∨ (k = 4 ∧ x = 195 ∧ y = 195) by omega)
 have f0 : IntKind.i64.wrap ((k : Int) - 1) = (k : Int) - 1 := by rw [IntKind.wrap_i64]; omega
 have f1 : IntKind.u8.wrap (x : Int) = (x : Int) := by rw [IntKind.wrap_u8]; omega
 clear m8 n8 x1 x2
 go_upto_region 1 with fail
 rename_i aK
 refine wp_region_seq ?_
 refine smv (.int .i64 (k : Int)) rfl rfl rfl ?_
 simp only [AP]
 refine svl (.int .i64 ((k : Int) - 1)) (.inl ⟨by rfl, fun w' _ => by go_simp⟩) ?_
 simp only [AP]
 refine svl (.int .i64 (x : Int)) (.inl ⟨by rfl, fun w' _ => by (rcases Q.out with ⟨rfl, rfl, rfl⟩ | ⟨rfl, rfl, rfl⟩ | ⟨rfl, rfl, rfl⟩ | ⟨rfl, rfl, rfl⟩ <;> go_simp <;> try (first | omega | decide))⟩) ?_
 simp only [AP]
 refine svl (.int .u8 (x : Int)) (.inl ⟨by rfl, fun w' _ => by go_simp⟩) ?_
 simp only [AP]
 refine sas (.int .u8 (x : Int)) rfl rfl rfl ?_
 simp only [AP]
 refine wpSeq_nil ?_
 refine (by assumption : ∀ (a : Act) (w : World), _ → _) _ _ ?_
 go_upto_region 2 with fail
 rename_i aK
 refine wp_region_seq ?_
 refine svl (.pointer (some ⟨W.heap.size, 0, none⟩)) (.inl ⟨by rfl, fun w' _ => by go_simp⟩) ?_
 simp only [AP]
 refine wpSeq_yield (S := fun w' => w' = W2) (v := .int .i64 0) (Or.inl ⟨by rfl, fun w' hw' => by (rw [hw']; go_simp)⟩) rfl ?_
 simp only [AP]
 refine svl (.bool false) (.inl ⟨by rfl, fun w' _ => by go_simp⟩) ?_
 simp only [AP]
 refine wpSeq_nil ?_
 refine (by assumption : ∀ (a : Act) (w : World), _ → _) _ _ ?_
 have e9 : x = y := by omega
 clear hx
 subst x
 go_upto_region 4 with fail
 rename_i aK
 refine wp_region_seq ?_
 refine smv (.int .u8 (y : Int)) rfl rfl rfl ?_
 simp only [AP]
 refine wpSeq_wp rfl ?_
 unfold Oper.wp execOp
 go_simp
 have O3 := OwL.built W2.heap.size W2 [y] (Nat.le_refl _) (by simp [maxLen])
 have b3 := (Below.refl W2.heap.size W2).alloc (Nat.le_refl _) (.cells (Iv .u8 (NI [y])) 5)
 replace O3 : OwL W2.heap.size (W2.alloc (.cells #[.int .u8 (y : Int)] 5)) (.slice (some ⟨W2.heap.size, 0, none⟩) 1 1) [y] := O3
 replace b3 : Below W2.heap.size W2 (W2.alloc (.cells #[.int .u8 (y : Int)] 5)) := b3
 generalize World.alloc W2 _ = W3 at *
 obtain ⟨v4, W4, hr, O4, b4⟩ := append_strs W2.heap.size W2 W3 24 _ _ { data := #[0, 0, 0, 1] } O3 (by show 1 + 4 ≤ 1000000; decide) b3 b3.size
 replace O4 : OwL W2.heap.size W4 v4 ([y] ++ [0, 0, 0, 1]) := O4
 replace O4 := Lib.hid O4
 replace b4 := Lib.hid b4
 clear x0 O3 b3 f0 f1
 refine wpSeq_wp rfl (wp_append_run _ _ _ _ rfl _ _ rfl rfl v4 W4 hr ?_)
 simp only [AP]
 refine sas (v4) rfl rfl rfl ?_
 simp only [AP]
 refine wpSeq_nil ?_
 refine (by assumption : ∀ (a : Act) (w : World), _ → _) _ _ ?_
 clear hr
 have bd := below_drew b4.out
 have Od := O4.out.below (below_drew (Below.refl W4.heap.size W4))
 clear O4 b4
 obtain ⟨v5, W5, hr5, O5, b5⟩ := append_new W4.drew W2.heap.size 24 v4 _ [8] Od (by simp only [List.length_append, List.length_cons, List.length_nil]; have := LM.out; omega) bd.size W2 bd
 obtain ⟨v6, W6, hr6, O6, b6⟩ := append_more W2.heap.size W2 W5 24 v5 (.slice p1 8 c1) _ to O5 (h1.out.below b5) (by simp only [List.length_append, List.length_cons, List.length_nil]; have := LM.out; omega) b5 b5.size
 clear Od O5
 replace O6 := Lib.hid O6
 go_upto_region 5 with fail
 rename_i aK
 refine wp_region_S (S := fun w' => Below W2.heap.size W2 w') (by kernel_rfl) ?_
 generalize W4.drew = W4d at *
 refine wpAnyS_takeL 0 (v := v4) rfl (by kernel_rfl) (by kernel_rfl) (by kernel_rfl) (fun _ _ _ H => H) (yieldsIf_move rfl _ rfl (v4) rfl) bd ?_
 simp only [AP]
 refine wpAnyS_takeL 3 (v := .pointer (some ⟨W.heap.size, 1, none⟩)) rfl (by kernel_rfl) (by kernel_rfl) (by kernel_rfl) (fun _ _ _ H => H) (Or.inl ⟨by rfl, fun w' hw' => by go_simp⟩) bd ?_
 simp only [AP]
 refine wpAnyS_takeL 4 (v := .slice p1 8 c1) rfl (by kernel_rfl) (by kernel_rfl) (by kernel_rfl) (fun _ _ _ H => H) (Or.inl ⟨by rfl, fun w' hw' => by (have x : w'.cell? ⟨W.heap.size, 1, none⟩ = some (.slice p1 8 c1) := (K.out.below' hw').cell 1; go_simp)⟩) bd ?_
 simp only [AP]
 refine gstep 1 rfl rfl (by kernel_rfl) ?_
 unfold Oper.wp execOp
 go_simp
 refine ⟨bd.alloc bd.size _, ?_⟩
 refine gstep 2 rfl rfl (by kernel_rfl) (wp_append_run _ _ _ _ rfl _ _ rfl rfl v5 W5 hr5 ⟨b5, ?_⟩)
 simp only [AP]
 refine gstep 5 rfl rfl (by kernel_rfl) (wp_append_run _ _ _ _ rfl _ _ rfl rfl v6 W6 hr6 ⟨b6, ?_⟩)
 simp only [AP]
 refine wpAnyS_takeL 6 (v := v6) rfl (by kernel_rfl) (by kernel_rfl) (by kernel_rfl) (fun _ _ _ H => H) (yieldsIf_assign rfl _ rfl (v6) rfl) b6 ?_
 simp only [AP]
 refine wpAnyS_done (by kernel_rfl) ?_ _
 refine (by assumption : ∀ (a : Act) (w : World), _ → _) _ _ ?_
 clear hr5 hr6 b5 bd
 replace b6 := Lib.hid b6
 have bd := below_drew b6.out
 have Od := O6.out.below (below_drew (Below.refl W6.heap.size W6))
 clear O6 b6
 obtain ⟨v7, W7, hr5, O7, b7⟩ := append_new W6.drew W2.heap.size 24 v6 _ [8] Od (by simp only [List.length_append, List.length_cons, List.length_nil]; have := LM.out; omega) bd.size W2 bd
 obtain ⟨v8, W8, hr6, O8, b8⟩ := append_more W2.heap.size W2 W7 24 v7 (.slice p2 8 c2) _ fr O7 (h2.out.below b7) (by simp only [List.length_append, List.length_cons, List.length_nil]; have := LM.out; omega) b7 b7.size
 clear Od O7
 replace O8 := Lib.hid O8
 go_upto_region 6 with fail
 rename_i aK
 refine wp_region_S (S := fun w' => Below W2.heap.size W2 w') (by kernel_rfl) ?_
 generalize W6.drew = W6d at *
 refine wpAnyS_takeL 0 (v := v6) rfl (by kernel_rfl) (by kernel_rfl) (by kernel_rfl) (fun _ _ _ H => H) (yieldsIf_move rfl _ rfl (v6) rfl) bd ?_
 simp only [AP]
 refine wpAnyS_takeL 3 (v := .pointer (some ⟨W.heap.size, 2, none⟩)) rfl (by kernel_rfl) (by kernel_rfl) (by kernel_rfl) (fun _ _ _ H => H) (Or.inl ⟨by rfl, fun w' hw' => by go_simp⟩) bd ?_
 simp only [AP]
 refine wpAnyS_takeL 4 (v := .slice p2 8 c2) rfl (by kernel_rfl) (by kernel_rfl) (by kernel_rfl) (fun _ _ _ H => H) (Or.inl ⟨by rfl, fun w' hw' => by (have x : w'.cell? ⟨W.heap.size, 2, none⟩ = some (.slice p2 8 c2) := (K.out.below' hw').cell 2; go_simp)⟩) bd ?_
 simp only [AP]
 refine gstep 1 rfl rfl (by kernel_rfl) ?_
 unfold Oper.wp execOp
 go_simp
 refine ⟨bd.alloc bd.size _, ?_⟩
 refine gstep 2 rfl rfl (by kernel_rfl) (wp_append_run _ _ _ _ rfl _ _ rfl rfl v7 W7 hr5 ⟨b7, ?_⟩)
 simp only [AP]
 refine gstep 5 rfl rfl (by kernel_rfl) (wp_append_run _ _ _ _ rfl _ _ rfl rfl v8 W8 hr6 ⟨b8, ?_⟩)
 simp only [AP]
 refine wpAnyS_takeL 6 (v := v8) rfl (by kernel_rfl) (by kernel_rfl) (by kernel_rfl) (fun _ _ _ H => H) (yieldsIf_assign rfl _ rfl (v8) rfl) b8 ?_
 simp only [AP]
 refine wpAnyS_done (by kernel_rfl) ?_ _
 refine (by assumption : ∀ (a : Act) (w : World), _ → _) _ _ ?_
 clear hr5 hr6 b7 bd
 replace b8 := Lib.hid b8
 have x0 : W8.cell? ⟨W.heap.size, 0, none⟩ = some (.int .i64 0) := (K.out.below' b8.out).cell 0
 go_upto_region 7 with fail
 rename_i aK
 refine wp_region_seq ?_
 refine svl (.pointer (some ⟨W.heap.size, 0, none⟩)) (.inl ⟨by rfl, fun w' _ => by go_simp⟩) ?_
 simp only [AP]
 refine wpSeq_yield (S := fun w' => w' = W8) (v := .int .i64 0) (Or.inl ⟨by rfl, fun w' hw' => by (rw [hw']; go_simp)⟩) rfl ?_
 simp only [AP]
 refine svl (.bool true) (.inl ⟨by rfl, fun w' _ => by go_simp⟩) ?_
 simp only [AP]
 refine wpSeq_nil ?_
 refine (by assumption : ∀ (a : Act) (w : World), _ → _) _ _ ?_
 clear x0
 obtain ⟨v9, W9, hr7, O9, b9⟩ := append_new W8 W2.heap.size 24 v8 _ [0] O8.out (by simp only [List.length_append, List.length_cons, List.length_nil]; have := LM.out; omega) b8.out.size W2 b8.out
 clear O8
 replace O9 := Lib.hid O9
 replace b9 := Lib.hid b9
 go_upto_region 8 with fail
 rename_i aK
 refine wp_region_seq ?_
 refine smv (v8) rfl rfl rfl ?_
 simp only [AP]
 refine wpSeq_wp rfl ?_
 unfold Oper.wp execOp
 go_simp
 refine wpSeq_wp rfl (wp_append_run _ _ _ _ rfl _ _ rfl rfl v9 W9 hr7 ?_)
 simp only [AP]
 refine sas (v9) rfl rfl rfl ?_
 simp only [AP]
 refine wpSeq_nil ?_
 refine (by assumption : ∀ (a : Act) (w : World), _ → _) _ _ ?_
 clear hr7 b8
 obtain ⟨q, hq⟩ : ∃ q, t / 256 = q := ⟨_, rfl⟩
 obtain ⟨q6, hq6⟩ : ∃ q6, 64 + q = q6 := ⟨_, rfl⟩
 obtain ⟨r, hr9⟩ : ∃ r, t % 256 = r := ⟨_, rfl⟩
 have Q2 := Lib.hid (show (q = 0 ∧ q6 = 64) ∨ (q = 1 ∧ q6 = 65) ∨ (q = 2 ∧ q6 = 66) ∨ (q = 3 ∧ q6 = 67) ∨ (q = 4 ∧ q6 = 68) by omega)
 have f1 : IntKind.u8.wrap (q6 : Int) = (q6 : Int) := by rw [IntKind.wrap_u8]; omega
 have f2 : IntKind.u8.wrap (t : Int) = (r : Int) := by rw [IntKind.wrap_u8]; omega
 have f3 : IntKind.i64.wrap (q : Int) = (q : Int) := by rw [IntKind.wrap_i64]; omega
 have Q3 := Lib.hid (show q6 = 64 + t / 256 ∧ r = t % 256 ∧ y = 191 + k by omega)
 obtain ⟨v10, W10, hr7, O10, b10⟩ := append_new W9 W2.heap.size 24 v9 _ [q6, r] O9.out (by simp only [List.length_append, List.length_cons, List.length_nil]; have := LM.out; omega) b9.out.size W2 b9.out
 clear O9 Q
 go_upto_region 9 with fail
 rename_i aK
 refine wp_region_seq ?_
 refine smv (v9) rfl rfl rfl ?_
 simp only [AP]
 refine smv (.int .i64 (t : Int)) rfl rfl rfl ?_
 simp only [AP]
 refine svl (.int .i64 (q : Int)) (.inl ⟨by rfl, fun w' _ => by (go_simp; try omega)⟩) ?_
 simp only [AP]
 refine svl (.int .i64 (q6 : Int)) (.inl ⟨by rfl, fun w' _ => by (rcases Q2.out with ⟨rfl, rfl⟩ | ⟨rfl, rfl⟩ | ⟨rfl, rfl⟩ | ⟨rfl, rfl⟩ | ⟨rfl, rfl⟩ <;> go_simp <;> try (first | omega | decide))⟩) ?_
 simp only [AP]
 refine svl (.int .u8 (q6 : Int)) (.inl ⟨by rfl, fun w' _ => by go_simp⟩) ?_
 simp only [AP]
 refine smv (.int .i64 (t : Int)) rfl rfl rfl ?_
 simp only [AP]
 refine svl (.int .u8 (r : Int)) (.inl ⟨by rfl, fun w' _ => by go_simp⟩) ?_
 simp only [AP]
 refine wpSeq_wp rfl ?_
 unfold Oper.wp execOp
 go_simp
 refine wpSeq_wp rfl (wp_append_run _ _ _ _ rfl _ _ rfl rfl v10 W10 hr7 ?_)
 simp only [AP]
 refine sas (v10) rfl rfl rfl ?_
 simp only [AP]
 refine wpSeq_nil ?_
 refine (by assumption : ∀ (a : Act) (w : World), _ → _) _ _ ?_
 clear hr7
 go_wp2
 go_ret
 refine ⟨_, rfl, ?_, b.out.trans (b10.mono b.out.size)⟩
 have e9 : (191 + k) :: longB 0 to fr t = (((((([y] ++ [0, 0, 0, 1]) ++ [8]) ++ to) ++ [8]) ++ fr) ++ [0]) ++ [q6, r] := by
  rw [Q3.out.1, Q3.out.2.1, Q3.out.2.2]
  show (191 + k) :: ([0, 0, 0, 1] ++ ([8] ++ (to ++ ([8] ++ (fr ++ ([0] ++ [64 + t / 256, t % 256])))))) = _
  simp only [List.append_assoc, List.cons_append, List.nil_append]
 rw [e9]
 exact O10.mono b.out.size
set_option maxHeartbeats 8000000 in
set_option maxRecDepth 100000 in
theorem lay_one (to fr : List Nat) (k t : Nat) (m8 : to.length = 8) (n8 : fr.length = 8) (k4 : 1 ≤ k ∧ k ≤ 4) (t4 : t ≤ 1204) (vt vf : Value) (W : World) (h1 : SB W vt to) (h2 : SB W vf fr) :
  Calls Tryd.prog 45 #[hdV 1 vt vf, .int .i64 (k : Int), .int .i64 (t : Int)] W fun e w' => ∃ v, e = .returned v ∧ OwL W.heap.size w' v ((223 + k) :: longB 1 to fr t) ∧ Below W.heap.size W w' := by
 obtain ⟨p1, c1, rfl⟩ := h1.shape
 obtain ⟨p2, c2, rfl⟩ := h2.shape
 show Calls Tryd.prog 45 #[.agg #[.int .i64 1, .slice p1 to.length c1, .slice p2 fr.length c2], .int .i64 (k : Int), .int .i64 (t : Int)] W _
 rw [m8] at h1 ⊢
 rw [n8] at h2 ⊢
 go_enter Tryd.func45, Tryd.ntmps45
 go_upto_region 0 with fail
 rename_i aK
 refine wp_region_seq ?_
 refine wpSeq_wp rfl ?_
 unfold Oper.wp execOp
 go_simp
 refine sas (.slice none 0 0) rfl rfl rfl ?_
 simp only [AP]
 refine wpSeq_nil ?_
 refine aK _ _ ?_
 clear aK
 have K := Blk.new W 42 #[.int .i64 1, .slice p1 8 c1, .slice p2 8 c2]
 have b := (Below.refl W.heap.size W).alloc (Nat.le_refl _) (.cells #[.int .i64 1, .slice p1 8 c1, .slice p2 8 c2] 42)
 have zz : W.heap.size < (W.alloc (.cells #[.int .i64 1, .slice p1 8 c1, .slice p2 8 c2] 42)).heap.size := by rw [size_alloc1]; omega
 generalize World.alloc W _ = W2 at *
 have x0 : W2.cell? ⟨W.heap.size, 0, none⟩ = some (.int .i64 1) := K.cell 0
 have x1 : W2.cell? ⟨W.heap.size, 1, none⟩ = some (.slice p1 8 c1) := K.cell 1
 have x2 : W2.cell? ⟨W.heap.size, 2, none⟩ = some (.slice p2 8 c2) := K.cell 2
 replace h1 := Lib.hid (h1.below b)
 replace h2 := Lib.hid (h2.below b)
 replace K := Lib.hid K
 replace b := Lib.hid b
 have LM := Lib.hid (And.intro m8 n8)
 obtain ⟨x, hx⟩ : ∃ x, 191 + k = x := ⟨_, rfl⟩
 obtain ⟨y, hy⟩ : ∃ y, 223 + k = y := ⟨_, rfl⟩
 have Q := Lib.hid (show (k = 1 ∧ x = 192 ∧ y = 224) ∨ (k = 2 ∧ x = 193 ∧ y = 225) ∨ (k = 3 ∧ x = 194 ∧ y = 226) ∨ (k = 4 ∧ x = 195 ∧ y = 227) by omega)
 have f0 : IntKind.i64.wrap ((k : Int) - 1) = (k : Int) - 1 := by rw [IntKind.wrap_i64]; omega
 have f1 : IntKind.u8.wrap (x : Int) = (x : Int) := by rw [IntKind.wrap_u8]; omega
 clear m8 n8 x1 x2
 go_upto_region 1 with fail
 rename_i aK
 refine wp_region_seq ?_
 refine smv (.int .i64 (k : Int)) rfl rfl rfl ?_
 simp only [AP]
 refine svl (.int .i64 ((k : Int) - 1)) (.inl ⟨by rfl, fun w' _ => by go_simp⟩) ?_
 simp only [AP]
 refine svl (.int .i64 (x : Int)) (.inl ⟨by rfl, fun w' _ => by (rcases Q.out with ⟨rfl, rfl, rfl⟩ | ⟨rfl, rfl, rfl⟩ | ⟨rfl, rfl, rfl⟩ | ⟨rfl, rfl, rfl⟩ <;> go_simp <;> try (first | omega | decide))⟩) ?_
 simp only [AP]
 refine svl (.int .u8 (x : Int)) (.inl ⟨by rfl, fun w' _ => by go_simp⟩) ?_
 simp only [AP]
 refine sas (.int .u8 (x : Int)) rfl rfl rfl ?_
 simp only [AP]
 refine wpSeq_nil ?_
 refine (by assumption : ∀ (a : Act) (w : World), _ → _) _ _ ?_
 go_upto_region 2 with fail
 rename_i aK
 refine wp_region_seq ?_
 refine svl (.pointer (some ⟨W.heap.size, 0, none⟩)) (.inl ⟨by rfl, fun w' _ => by go_simp⟩) ?_
 simp only [AP]
 refine wpSeq_yield (S := fun w' => w' = W2) (v := .int .i64 1) (Or.inl ⟨by rfl, fun w' hw' => by (rw [hw']; go_simp)⟩) rfl ?_
 simp only [AP]
 refine svl (.bool true) (.inl ⟨by rfl, fun w' _ => by go_simp⟩) ?_
 simp only [AP]
 refine wpSeq_nil ?_
 refine (by assumption : ∀ (a : Act) (w : World), _ → _) _ _ ?_
 go_upto_region 3 with fail
 rename_i aK
 refine wp_region_seq ?_
 refine smv (.int .u8 (x : Int)) rfl rfl rfl ?_
 simp only [AP]
 refine svl (.int .u8 (y : Int)) (.inl ⟨by rfl, fun w' _ => by (rcases Q.out with ⟨rfl, rfl, rfl⟩ | ⟨rfl, rfl, rfl⟩ | ⟨rfl, rfl, rfl⟩ | ⟨rfl, rfl, rfl⟩ <;> go_simp <;> try (first | omega | decide))⟩) ?_
 simp only [AP]
 refine sas (.int .u8 (y : Int)) rfl rfl rfl ?_
 simp only [AP]
 refine wpSeq_nil ?_
 refine (by assumption : ∀ (a : Act) (w : World), _ → _) _ _ ?_
 go_upto_region 4 with fail
 rename_i aK
 refine wp_region_seq ?_
 refine smv (.int .u8 (y : Int)) rfl rfl rfl ?_
 simp only [AP]
 refine wpSeq_wp rfl ?_
 unfold Oper.wp execOp
 go_simp
 have O3 := OwL.built W2.heap.size W2 [y] (Nat.le_refl _) (by simp [maxLen])
 have b3 := (Below.refl W2.heap.size W2).alloc (Nat.le_refl _) (.cells (Iv .u8 (NI [y])) 5)
 replace O3 : OwL W2.heap.size (W2.alloc (.cells #[.int .u8 (y : Int)] 5)) (.slice (some ⟨W2.heap.size, 0, none⟩) 1 1) [y] := O3
 replace b3 : Below W2.heap.size W2 (W2.alloc (.cells #[.int .u8 (y : Int)] 5)) := b3
 generalize World.alloc W2 _ = W3 at *
 obtain ⟨v4, W4, hr, O4, b4⟩ := append_strs W2.heap.size W2 W3 24 _ _ { data := #[0, 0, 0, 1] } O3 (by show 1 + 4 ≤ 1000000; decide) b3 b3.size
 replace O4 : OwL W2.heap.size W4 v4 ([y] ++ [0, 0, 0, 1]) := O4
 replace O4 := Lib.hid O4
 replace b4 := Lib.hid b4
 clear x0 O3 b3 f0 f1
 refine wpSeq_wp rfl (wp_append_run _ _ _ _ rfl _ _ rfl rfl v4 W4 hr ?_)
 simp only [AP]
 refine sas (v4) rfl rfl rfl ?_
 simp only [AP]
 refine wpSeq_nil ?_
 refine (by assumption : ∀ (a : Act) (w : World), _ → _) _ _ ?_
 clear hr
 have bd := below_drew b4.out
 have Od := O4.out.below (below_drew (Below.refl W4.heap.size W4))
 clear O4 b4
 obtain ⟨v5, W5, hr5, O5, b5⟩ := append_new W4.drew W2.heap.size 24 v4 _ [8] Od (by simp only [List.length_append, List.length_cons, List.length_nil]; have := LM.out; omega) bd.size W2 bd
 obtain ⟨v6, W6, hr6, O6, b6⟩ := append_more W2.heap.size W2 W5 24 v5 (.slice p1 8 c1) _ to O5 (h1.out.below b5) (by simp only [List.length_append, List.length_cons, List.length_nil]; have := LM.out; omega) b5 b5.size
 clear Od O5
 replace O6 := Lib.hid O6
 go_upto_region 5 with fail
 rename_i aK
 refine wp_region_S (S := fun w' => Below W2.heap.size W2 w') (by kernel_rfl) ?_
 generalize W4.drew = W4d at *
 refine wpAnyS_takeL 0 (v := v4) rfl (by kernel_rfl) (by kernel_rfl) (by kernel_rfl) (fun _ _ _ H => H) (yieldsIf_move rfl _ rfl (v4) rfl) bd ?_
 simp only [AP]
 refine wpAnyS_takeL 3 (v := .pointer (some ⟨W.heap.size, 1, none⟩)) rfl (by kernel_rfl) (by kernel_rfl) (by kernel_rfl) (fun _ _ _ H => H) (Or.inl ⟨by rfl, fun w' hw' => by go_simp⟩) bd ?_
 simp only [AP]
 refine wpAnyS_takeL 4 (v := .slice p1 8 c1) rfl (by kernel_rfl) (by kernel_rfl) (by kernel_rfl) (fun _ _ _ H => H) (Or.inl ⟨by rfl, fun w' hw' => by (have x : w'.cell? ⟨W.heap.size, 1, none⟩ = some (.slice p1 8 c1) := (K.out.below' hw').cell 1; go_simp)⟩) bd ?_
 simp only [AP]
 refine gstep 1 rfl rfl (by kernel_rfl) ?_
 unfold Oper.wp execOp
 go_simp
 refine ⟨bd.alloc bd.size _, ?_⟩
 refine gstep 2 rfl rfl (by kernel_rfl) (wp_append_run _ _ _ _ rfl _ _ rfl rfl v5 W5 hr5 ⟨b5, ?_⟩)
 simp only [AP]
 refine gstep 5 rfl rfl (by kernel_rfl) (wp_append_run _ _ _ _ rfl _ _ rfl rfl v6 W6 hr6 ⟨b6, ?_⟩)
 simp only [AP]
 refine wpAnyS_takeL 6 (v := v6) rfl (by kernel_rfl) (by kernel_rfl) (by kernel_rfl) (fun _ _ _ H => H) (yieldsIf_assign rfl _ rfl (v6) rfl) b6 ?_
 simp only [AP]
 refine wpAnyS_done (by kernel_rfl) ?_ _
 refine (by assumption : ∀ (a : Act) (w : World), _ → _) _ _ ?_
 clear hr5 hr6 b5 bd
 replace b6 := Lib.hid b6
 have bd := below_drew b6.out
 have Od := O6.out.below (below_drew (Below.refl W6.heap.size W6))
 clear O6 b6
 obtain ⟨v7, W7, hr5, O7, b7⟩ := append_new W6.drew W2.heap.size 24 v6 _ [8] Od (by simp only [List.length_append, List.length_cons, List.length_nil]; have := LM.out; omega) bd.size W2 bd
 obtain ⟨v8, W8, hr6, O8, b8⟩ := append_more W2.heap.size W2 W7 24 v7 (.slice p2 8 c2) _ fr O7 (h2.out.below b7) (by simp only [List.length_append, List.length_cons, List.length_nil]; have := LM.out; omega) b7 b7.size
 clear Od O7
 replace O8 := Lib.hid O8
 go_upto_region 6 with fail
 rename_i aK
 refine wp_region_S (S := fun w' => Below W2.heap.size W2 w') (by kernel_rfl) ?_
 generalize W6.drew = W6d at *
 refine wpAnyS_takeL 0 (v := v6) rfl (by kernel_rfl) (by kernel_rfl) (by kernel_rfl) (fun _ _ _ H => H) (yieldsIf_move rfl _ rfl (v6) rfl) bd ?_
 simp only [AP]
 refine wpAnyS_takeL 3 (v := .pointer (some ⟨W.heap.size, 2, none⟩)) rfl (by kernel_rfl) (by kernel_rfl) (by kernel_rfl) (fun _ _ _ H => H) (Or.inl ⟨by rfl, fun w' hw' => by go_simp⟩) bd ?_
 simp only [AP]
 refine wpAnyS_takeL 4 (v := .slice p2 8 c2) rfl (by kernel_rfl) (by kernel_rfl) (by kernel_rfl) (fun _ _ _ H => H) (Or.inl ⟨by rfl, fun w' hw' => by (have x : w'.cell? ⟨W.heap.size, 2, none⟩ = some (.slice p2 8 c2) := (K.out.below' hw').cell 2; go_simp)⟩) bd ?_
 simp only [AP]
 refine gstep 1 rfl rfl (by kernel_rfl) ?_
 unfold Oper.wp execOp
 go_simp
 refine ⟨bd.alloc bd.size _, ?_⟩
 refine gstep 2 rfl rfl (by kernel_rfl) (wp_append_run _ _ _ _ rfl _ _ rfl rfl v7 W7 hr5 ⟨b7, ?_⟩)
 simp only [AP]
 refine gstep 5 rfl rfl (by kernel_rfl) (wp_append_run _ _ _ _ rfl _ _ rfl rfl v8 W8 hr6 ⟨b8, ?_⟩)
 simp only [AP]
 refine wpAnyS_takeL 6 (v := v8) rfl (by kernel_rfl) (by kernel_rfl) (by kernel_rfl) (fun _ _ _ H => H) (yieldsIf_assign rfl _ rfl (v8) rfl) b8 ?_
 simp only [AP]
 refine wpAnyS_done (by kernel_rfl) ?_ _
 refine (by assumption : ∀ (a : Act) (w : World), _ → _) _ _ ?_
 clear hr5 hr6 b7 bd
 replace b8 := Lib.hid b8
 have x0 : W8.cell? ⟨W.heap.size, 0, none⟩ = some (.int .i64 1) := (K.out.below' b8.out).cell 0
 go_upto_region 7 with fail
 rename_i aK
 refine wp_region_seq ?_
 refine svl (.pointer (some ⟨W.heap.size, 0, none⟩)) (.inl ⟨by rfl, fun w' _ => by go_simp⟩) ?_
 simp only [AP]
 refine wpSeq_yield (S := fun w' => w' = W8) (v := .int .i64 1) (Or.inl ⟨by rfl, fun w' hw' => by (rw [hw']; go_simp)⟩) rfl ?_
 simp only [AP]
 refine svl (.bool false) (.inl ⟨by rfl, fun w' _ => by go_simp⟩) ?_
 simp only [AP]
 refine wpSeq_nil ?_
 refine (by assumption : ∀ (a : Act) (w : World), _ → _) _ _ ?_
 clear x0
 obtain ⟨q, hq⟩ : ∃ q, t / 256 = q := ⟨_, rfl⟩
 obtain ⟨q6, hq6⟩ : ∃ q6, 64 + q = q6 := ⟨_, rfl⟩
 obtain ⟨r, hr9⟩ : ∃ r, t % 256 = r := ⟨_, rfl⟩
 have Q2 := Lib.hid (show (q = 0 ∧ q6 = 64) ∨ (q = 1 ∧ q6 = 65) ∨ (q = 2 ∧ q6 = 66) ∨ (q = 3 ∧ q6 = 67) ∨ (q = 4 ∧ q6 = 68) by omega)
 have f1 : IntKind.u8.wrap (q6 : Int) = (q6 : Int) := by rw [IntKind.wrap_u8]; omega
 have f2 : IntKind.u8.wrap (t : Int) = (r : Int) := by rw [IntKind.wrap_u8]; omega
 have f3 : IntKind.i64.wrap (q : Int) = (q : Int) := by rw [IntKind.wrap_i64]; omega
 have Q3 := Lib.hid (show q6 = 64 + t / 256 ∧ r = t % 256 ∧ y = 223 + k by omega)
 obtain ⟨v9, W9, hr7, O9, b9⟩ := append_new W8 W2.heap.size 24 v8 _ [q6, r] O8.out (by simp only [List.length_append, List.length_cons, List.length_nil]; have := LM.out; omega) b8.out.size W2 b8.out
 clear O8 Q
 go_upto_region 9 with fail
 rename_i aK
 refine wp_region_seq ?_
 refine smv (v8) rfl rfl rfl ?_
 simp only [AP]
 refine smv (.int .i64 (t : Int)) rfl rfl rfl ?_
 simp only [AP]
 refine svl (.int .i64 (q : Int)) (.inl ⟨by rfl, fun w' _ => by (go_simp; try omega)⟩) ?_
 simp only [AP]
 refine svl (.int .i64 (q6 : Int)) (.inl ⟨by rfl, fun w' _ => by (rcases Q2.out with ⟨rfl, rfl⟩ | ⟨rfl, rfl⟩ | ⟨rfl, rfl⟩ | ⟨rfl, rfl⟩ | ⟨rfl, rfl⟩ <;> go_simp <;> try (first | omega | decide))⟩) ?_
 simp only [AP]
 refine svl (.int .u8 (q6 : Int)) (.inl ⟨by rfl, fun w' _ => by go_simp⟩) ?_
 simp only [AP]
 refine smv (.int .i64 (t : Int)) rfl rfl rfl ?_
 simp only [AP]
 refine svl (.int .u8 (r : Int)) (.inl ⟨by rfl, fun w' _ => by go_simp⟩) ?_
 simp only [AP]
 refine wpSeq_wp rfl ?_
 unfold Oper.wp execOp
 go_simp
 refine wpSeq_wp rfl (wp_append_run _ _ _ _ rfl _ _ rfl rfl v9 W9 hr7 ?_)
 simp only [AP]
 refine sas (v9) rfl rfl rfl ?_
 simp only [AP]
 refine wpSeq_nil ?_
 refine (by assumption : ∀ (a : Act) (w : World), _ → _) _ _ ?_
 clear hr7
 go_wp2
 go_ret
 refine ⟨_, rfl, ?_, b.out.trans (b9.mono b.out.size)⟩
 have e9 : (223 + k) :: longB 1 to fr t = ((((([y] ++ [0, 0, 0, 1]) ++ [8]) ++ to) ++ [8]) ++ fr) ++ [q6, r] := by
  rw [Q3.out.1, Q3.out.2.1, Q3.out.2.2]
  show (223 + k) :: ([0, 0, 0, 1] ++ ([8] ++ (to ++ ([8] ++ (fr ++ ([] ++ [64 + t / 256, t % 256])))))) = _
  simp only [List.append_assoc, List.cons_append, List.nil_append]
 rw [e9]
 exact O9.mono b.out.size
end Go.Proofs.YtpihgljdbpnehaaDoor
