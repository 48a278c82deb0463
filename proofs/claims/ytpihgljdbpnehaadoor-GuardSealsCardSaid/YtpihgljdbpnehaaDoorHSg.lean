/- The reference's Head: in the first space (printed by gen12/se.py). -/
import Derived.Test.YtpihgljdbpnehaaDoorLq0Nb
namespace Go.Proofs.YtpihgljdbpnehaaDoor
open Go.RowKit
set_option maxHeartbeats 8000000 in
set_option maxRecDepth 100000 in
theorem rhead_zero (to fr : List Nat) (pn k z : Nat) (m8 : to.length = 8) (n8 : fr.length = 8) (k4 : 1 ≤ k ∧ k ≤ 4) (z4 : z ≤ 1200) (vt vf : Value) (W : World) (ht : to.length ≤ 100) (hf : fr.length ≤ 100) (_hp : pn < 18446744073709551616) (h1 : SB W vt to) (h2 : SB W vf fr) :
    Calls Tryd.prog 33 #[hdV 0 vt vf, .int .u64 (pn : Int), .int .i64 (k : Int), .int .i64 (z : Int)] W fun e w' => ∃ v, e = .returned (.tuple #[v, .int .i64 0]) ∧ OwL W.heap.size w' v (headB 0 to fr pn k z) ∧ Below W.heap.size W w' := by
  obtain ⟨p1, c1, rfl⟩ := h1.shape
  obtain ⟨p2, c2, rfl⟩ := h2.shape
  show Calls Tryd.prog 33 #[.agg #[.int .i64 0, .slice p1 to.length c1, .slice p2 fr.length c2], .int .u64 (pn : Int), .int .i64 (k : Int), .int .i64 (z : Int)] W _
  obtain ⟨m, hm⟩ : ∃ m, to.length = m := ⟨_, rfl⟩
  obtain ⟨n, hn⟩ : ∃ n, fr.length = n := ⟨_, rfl⟩
  rw [hm] at h1 ht m8
  rw [hn] at h2 hf n8
  rw [hm, hn]
  have MN := Lib.hid (And.intro hm hn)
  clear hm hn
  subst m8
  subst n8
  go_enter Tryd.func33, Tryd.ntmps33
  go_upto_region 0 with fail
  rename_i aK
  refine wp_region_seq ?_
  refine wpSeq_wp rfl ?_
  unfold Oper.wp execOp
  go_simp
  refine wpSeq_yield (S := fun _ => True) (yieldsIf_assign rfl _ rfl (.slice none 0 0) rfl) trivial ?_
  simp only [AP]
  refine wpSeq_yield (S := fun _ => True) (yieldsIf_assign rfl _ rfl (.int .i64 0) rfl) trivial ?_
  simp only [AP]
  refine wpSeq_nil ?_
  refine aK _ _ ?_
  clear aK
  have K := Blk.new W 42 #[.int .i64 0, .slice p1 8 c1, .slice p2 8 c2]
  have b := (Below.refl W.heap.size W).alloc (Nat.le_refl _) (.cells #[.int .i64 0, .slice p1 8 c1, .slice p2 8 c2] 42)
  have zz : W.heap.size < (W.alloc (.cells #[.int .i64 0, .slice p1 8 c1, .slice p2 8 c2] 42)).heap.size := by rw [size_alloc1]; omega
  generalize World.alloc W _ = W2 at *
  have x0 : W2.cell? ⟨W.heap.size, 0, none⟩ = some (.int .i64 0) := K.cell 0
  have x1 : W2.cell? ⟨W.heap.size, 1, none⟩ = some (.slice p1 8 c1) := K.cell 1
  have x2 : W2.cell? ⟨W.heap.size, 2, none⟩ = some (.slice p2 8 c2) := K.cell 2
  replace h1 := Lib.hid (h1.below b)
  replace h2 := Lib.hid (h2.below b)
  replace K := Lib.hid K
  replace b := Lib.hid b
  go_upto_region 1 with fail
  rename_i aK
  refine wp_region_seq ?_
  refine wpSeq_yield (S := fun _ => True) (v := .pointer (some ⟨W.heap.size, 0, none⟩)) (Or.inl ⟨by rfl, fun w' hw' => by go_simp⟩) trivial ?_
  simp only [AP]
  refine wpSeq_yield (S := fun w' => w' = W2) (v := .int .i64 0) (Or.inl ⟨by rfl, fun w' hw' => by (rw [hw']; go_simp)⟩) rfl ?_
  simp only [AP]
  refine wpSeq_yield (S := fun _ => True) (v := .bool false) (Or.inl ⟨by rfl, fun w' hw' => by (go_simp; try omega)⟩) trivial ?_
  simp only [AP]
  refine wpSeq_yield (S := fun _ => True) (yieldsIf_move rfl _ rfl (.bool false) rfl) trivial ?_
  simp only [AP]
  refine wpSeq_yield (S := fun _ => True) (v := .pointer (some ⟨W.heap.size, 0, none⟩)) (Or.inl ⟨by rfl, fun w' hw' => by go_simp⟩) trivial ?_
  simp only [AP]
  refine wpSeq_yield (S := fun w' => w' = W2) (v := .int .i64 0) (Or.inl ⟨by rfl, fun w' hw' => by (rw [hw']; go_simp)⟩) rfl ?_
  simp only [AP]
  refine wpSeq_yield (S := fun _ => True) (v := .bool false) (Or.inl ⟨by rfl, fun w' hw' => by (go_simp; try omega)⟩) trivial ?_
  simp only [AP]
  refine wpSeq_yield (S := fun _ => True) (yieldsIf_pick rfl _ _ _ rfl false rfl (.bool false) rfl) trivial ?_
  simp only [AP]
  refine wpSeq_yield (S := fun _ => True) (yieldsIf_move rfl _ rfl (.bool false) rfl) trivial ?_
  simp only [AP]
  refine wpSeq_yield (S := fun _ => True) (v := .pointer (some ⟨W.heap.size, 1, none⟩)) (Or.inl ⟨by rfl, fun w' hw' => by go_simp⟩) trivial ?_
  simp only [AP]
  refine wpSeq_yield (S := fun w' => w' = W2) (v := .slice p1 8 c1) (Or.inl ⟨by rfl, fun w' hw' => by (rw [hw']; go_simp)⟩) rfl ?_
  simp only [AP]
  refine wpSeq_yield (S := fun _ => True) (v := .int .i64 8) (Or.inl ⟨by rfl, fun w' hw' => by go_simp⟩) trivial ?_
  simp only [AP]
  refine wpSeq_yield (S := fun _ => True) (v := .bool false) (Or.inl ⟨by rfl, fun w' hw' => by (go_simp; try omega)⟩) trivial ?_
  simp only [AP]
  refine wpSeq_yield (S := fun _ => True) (yieldsIf_pick rfl _ _ _ rfl false rfl (.bool false) rfl) trivial ?_
  simp only [AP]
  refine wpSeq_yield (S := fun _ => True) (yieldsIf_move rfl _ rfl (.bool false) rfl) trivial ?_
  simp only [AP]
  refine wpSeq_yield (S := fun _ => True) (v := .pointer (some ⟨W.heap.size, 0, none⟩)) (Or.inl ⟨by rfl, fun w' hw' => by go_simp⟩) trivial ?_
  simp only [AP]
  refine wpSeq_yield (S := fun w' => w' = W2) (v := .int .i64 0) (Or.inl ⟨by rfl, fun w' hw' => by (rw [hw']; go_simp)⟩) rfl ?_
  simp only [AP]
  refine wpSeq_yield (S := fun _ => True) (v := .bool true) (Or.inl ⟨by rfl, fun w' hw' => by (go_simp; try omega)⟩) trivial ?_
  simp only [AP]
  refine wpSeq_yield (S := fun _ => True) (yieldsIf_move rfl _ rfl (.bool true) rfl) trivial ?_
  simp only [AP]
  refine wpSeq_yield (S := fun _ => True) (v := .pointer (some ⟨W.heap.size, 2, none⟩)) (Or.inl ⟨by rfl, fun w' hw' => by go_simp⟩) trivial ?_
  simp only [AP]
  refine wpSeq_yield (S := fun w' => w' = W2) (v := .slice p2 8 c2) (Or.inl ⟨by rfl, fun w' hw' => by (rw [hw']; go_simp)⟩) rfl ?_
  simp only [AP]
  refine wpSeq_yield (S := fun _ => True) (v := .int .i64 8) (Or.inl ⟨by rfl, fun w' hw' => by go_simp⟩) trivial ?_
  simp only [AP]
  refine wpSeq_yield (S := fun _ => True) (v := .bool false) (Or.inl ⟨by rfl, fun w' hw' => by (go_simp; try omega)⟩) trivial ?_
  simp only [AP]
  refine wpSeq_yield (S := fun _ => True) (yieldsIf_pick rfl _ _ _ rfl true rfl (.bool false) rfl) trivial ?_
  simp only [AP]
  refine wpSeq_yield (S := fun _ => True) (yieldsIf_pick rfl _ _ _ rfl false rfl (.bool false) rfl) trivial ?_
  simp only [AP]
  refine wpSeq_yield (S := fun _ => True) (yieldsIf_move rfl _ rfl (.bool false) rfl) trivial ?_
  simp only [AP]
  refine wpSeq_yield (S := fun _ => True) (yieldsIf_move rfl _ rfl (.int .i64 (k : Int)) rfl) trivial ?_
  simp only [AP]
  refine wpSeq_yield (S := fun _ => True) (v := .bool false) (Or.inl ⟨by rfl, fun w' hw' => by (go_simp; try omega)⟩) trivial ?_
  simp only [AP]
  refine wpSeq_yield (S := fun _ => True) (yieldsIf_pick rfl _ _ _ rfl false rfl (.bool false) rfl) trivial ?_
  simp only [AP]
  refine wpSeq_yield (S := fun _ => True) (yieldsIf_move rfl _ rfl (.bool false) rfl) trivial ?_
  simp only [AP]
  refine wpSeq_yield (S := fun _ => True) (yieldsIf_move rfl _ rfl (.int .i64 (k : Int)) rfl) trivial ?_
  simp only [AP]
  refine wpSeq_yield (S := fun _ => True) (v := .bool false) (Or.inl ⟨by rfl, fun w' hw' => by (go_simp; try omega)⟩) trivial ?_
  simp only [AP]
  refine wpSeq_yield (S := fun _ => True) (yieldsIf_pick rfl _ _ _ rfl false rfl (.bool false) rfl) trivial ?_
  simp only [AP]
  refine wpSeq_yield (S := fun _ => True) (yieldsIf_move rfl _ rfl (.bool false) rfl) trivial ?_
  simp only [AP]
  refine wpSeq_yield (S := fun _ => True) (yieldsIf_move rfl _ rfl (.int .i64 (z : Int)) rfl) trivial ?_
  simp only [AP]
  refine wpSeq_yield (S := fun _ => True) (v := .bool false) (Or.inl ⟨by rfl, fun w' hw' => by (go_simp; try omega)⟩) trivial ?_
  simp only [AP]
  refine wpSeq_yield (S := fun _ => True) (yieldsIf_pick rfl _ _ _ rfl false rfl (.bool false) rfl) trivial ?_
  simp only [AP]
  refine wpSeq_yield (S := fun _ => True) (yieldsIf_move rfl _ rfl (.bool false) rfl) trivial ?_
  simp only [AP]
  refine wpSeq_yield (S := fun _ => True) (yieldsIf_move rfl _ rfl (.int .i64 (z : Int)) rfl) trivial ?_
  simp only [AP]
  refine wpSeq_yield (S := fun _ => True) (v := .bool false) (Or.inl ⟨by rfl, fun w' hw' => by (go_simp; try omega)⟩) trivial ?_
  simp only [AP]
  refine wpSeq_yield (S := fun _ => True) (yieldsIf_pick rfl _ _ _ rfl false rfl (.bool false) rfl) trivial ?_
  simp only [AP]
  refine wpSeq_nil ?_
  refine (by assumption : ∀ (a : Act) (w : World), _ → _) _ _ ?_
  go_upto_region 3 with fail
  rename_i aK
  refine wp_region_seq ?_
  refine wpSeq_yield (S := fun _ => True) (yieldsIf_assign rfl _ rfl (.slice none 0 0) rfl) trivial ?_
  simp only [AP]
  refine wpSeq_nil ?_
  refine (by assumption : ∀ (a : Act) (w : World), _ → _) _ _ ?_
  go_upto_region 4 with fail
  rename_i aK
  refine wp_region_seq ?_
  refine wpSeq_yield (S := fun _ => True) (v := .pointer (some ⟨W.heap.size, 0, none⟩)) (Or.inl ⟨by rfl, fun w' hw' => by go_simp⟩) trivial ?_
  simp only [AP]
  refine wpSeq_yield (S := fun w' => w' = W2) (v := .int .i64 0) (Or.inl ⟨by rfl, fun w' hw' => by (rw [hw']; go_simp)⟩) rfl ?_
  simp only [AP]
  refine wpSeq_yield (S := fun _ => True) (v := .bool false) (Or.inl ⟨by rfl, fun w' hw' => by go_simp⟩) trivial ?_
  simp only [AP]
  refine wpSeq_nil ?_
  refine (by assumption : ∀ (a : Act) (w : World), _ → _) _ _ ?_
  obtain ⟨y, hy⟩ : ∃ y, 191 + k = y := ⟨_, rfl⟩
  have f0 : IntKind.i64.wrap (191 + (k : Int)) = (y : Int) := by rw [IntKind.wrap_i64]; omega
  have f1 : IntKind.u8.wrap (y : Int) = (y : Int) := by rw [IntKind.wrap_u8]; omega
  have LM := Lib.hid (show to.length = 8 ∧ fr.length ≤ 100 by have := MN.out; omega)
  go_upto_region 6 with fail
  rename_i aK
  refine wp_region_seq ?_
  refine wpSeq_yield (S := fun _ => True) (v := .pointer (some ⟨W.heap.size, 0, none⟩)) (Or.inl ⟨by rfl, fun w' hw' => by go_simp⟩) trivial ?_
  simp only [AP]
  refine wpSeq_yield (S := fun w' => w' = W2) (v := .int .i64 0) (Or.inl ⟨by rfl, fun w' hw' => by (rw [hw']; go_simp)⟩) rfl ?_
  simp only [AP]
  refine wpSeq_yield (S := fun _ => True) (v := .int .i64 0) (Or.inl ⟨by rfl, fun w' hw' => by (go_simp; try decide)⟩) trivial ?_
  simp only [AP]
  refine wpSeq_yield (S := fun _ => True) (v := .int .i64 191) (Or.inl ⟨by rfl, fun w' hw' => by (go_simp; try decide)⟩) trivial ?_
  simp only [AP]
  refine wpSeq_yield (S := fun _ => True) (yieldsIf_move rfl _ rfl (.int .i64 (k : Int)) rfl) trivial ?_
  simp only [AP]
  refine wpSeq_yield (S := fun _ => True) (v := .int .i64 (y : Int)) (Or.inl ⟨by rfl, fun w' hw' => by go_simp⟩) trivial ?_
  simp only [AP]
  refine wpSeq_yield (S := fun _ => True) (v := .int .u8 (y : Int)) (Or.inl ⟨by rfl, fun w' hw' => by go_simp⟩) trivial ?_
  simp only [AP]
  refine wpSeq_wp rfl ?_
  unfold Oper.wp execOp
  go_simp
  have O3 := OwL.built W2.heap.size W2 [y, 0, 0, 0, 1, 8] (Nat.le_refl _) (by simp [maxLen])
  have b3 := (Below.refl W2.heap.size W2).alloc (Nat.le_refl _) (.cells (Iv .u8 (NI [y, 0, 0, 0, 1, 8])) 5)
  replace O3 : OwL W2.heap.size (W2.alloc (.cells #[.int .u8 (y : Int), .int .u8 0, .int .u8 0, .int .u8 0, .int .u8 1, .int .u8 8] 5)) (.slice (some ⟨W2.heap.size, 0, none⟩) 6 6) [y, 0, 0, 0, 1, 8] := O3
  replace b3 : Below W2.heap.size W2 (W2.alloc (.cells #[.int .u8 (y : Int), .int .u8 0, .int .u8 0, .int .u8 0, .int .u8 1, .int .u8 8] 5)) := b3
  generalize World.alloc W2 _ = W3 at *
  have x3 : W3.cell? ⟨W.heap.size, 1, none⟩ = some (.slice p1 8 c1) := (K.out.below' b3).cell 1
  obtain ⟨v4, W4, hr, O4, b4⟩ := append_more W2.heap.size W2 W3 24 _ _ _ _ O3 (h1.out.below b3) (by simp only [List.length_cons, List.length_nil]; have := LM.out.1; omega) b3 b3.size
  replace O4 := Lib.hid O4
  replace b4 := Lib.hid b4
  clear x0 x1 x2 O3 b3
  refine wpSeq_yield (S := fun _ => True) (v := .pointer (some ⟨W.heap.size, 1, none⟩)) (Or.inl ⟨by rfl, fun w' hw' => by go_simp⟩) trivial ?_
  simp only [AP]
  refine wpSeq_yield (S := fun w' => w' = W3) (v := .slice p1 8 c1) (Or.inl ⟨by rfl, fun w' hw' => by (rw [hw']; go_simp)⟩) rfl ?_
  simp only [AP]
  refine wpSeq_wp rfl (wp_append_run _ _ _ _ rfl _ _ rfl rfl v4 W4 hr ?_)
  simp only [AP]
  refine wpSeq_yield (S := fun _ => True) (yieldsIf_assign rfl _ rfl (v4) rfl) trivial ?_
  simp only [AP]
  refine wpSeq_nil ?_
  refine (by assumption : ∀ (a : Act) (w : World), _ → _) _ _ ?_
  clear x3 hr f0 f1
  have bd := below_drew b4.out
  have Od := O4.out.below (below_drew (Below.refl W4.heap.size W4))
  clear O4 b4
  obtain ⟨v5, W5, hr5, O5, b5⟩ := append_new W4.drew W2.heap.size 24 v4 _ [8] Od (by simp only [List.length_append, List.length_cons, List.length_nil]; have := LM.out.1; omega) bd.size W2 bd
  obtain ⟨v6, W6, hr6, O6, b6⟩ := append_more W2.heap.size W2 W5 24 v5 (.slice p2 8 c2) _ fr O5 (h2.out.below b5) (by simp only [List.length_append, List.length_cons, List.length_nil]; have := LM.out; omega) b5 b5.size
  clear Od O5
  replace O6 := Lib.hid O6
  go_upto_region 7 with fail
  rename_i aK
  refine wp_region_S (S := fun w' => Below W2.heap.size W2 w') (by kernel_rfl) ?_
  generalize W4.drew = W4d at *
  refine wpAnyS_takeL 0 (v := v4) rfl (by kernel_rfl) (by kernel_rfl) (by kernel_rfl) (fun _ _ _ H => H) (yieldsIf_move rfl _ rfl (v4) rfl) bd ?_
  simp only [AP]
  refine wpAnyS_takeL 3 (v := .pointer (some ⟨W.heap.size, 2, none⟩)) rfl (by kernel_rfl) (by kernel_rfl) (by kernel_rfl) (fun _ _ _ H => H) (Or.inl ⟨by rfl, fun w' hw' => by go_simp⟩) bd ?_
  simp only [AP]
  refine wpAnyS_takeL 4 (v := .slice p2 8 c2) rfl (by kernel_rfl) (by kernel_rfl) (by kernel_rfl) (fun _ _ _ H => H) (Or.inl ⟨by rfl, fun w' hw' => by (have x : w'.cell? ⟨W.heap.size, 2, none⟩ = some (.slice p2 8 c2) := (K.out.below' hw').cell 2; go_simp)⟩) bd ?_
  simp only [AP]
  refine gstep 1 rfl rfl (by kernel_rfl) ?_
  unfold Oper.wp execOp
  go_simp
  refine ⟨bd.alloc bd.size _, ?_⟩
  refine gstep 2 rfl rfl (by kernel_rfl) (wp_append_run _ _ _ _ rfl _ _ rfl rfl v5 W5 hr5 ⟨b5, ?_⟩)
  simp only [AP]
  refine gstep 5 rfl rfl (by kernel_rfl) (wp_append_run _ _ _ _ rfl _ _ rfl rfl v6 W6 hr6 ⟨b6, ?_⟩)
  simp only [AP]
  refine wpAnyS_takeL 6 (v := v6) rfl (by kernel_rfl) (by kernel_rfl) (by kernel_rfl) (fun _ _ _ H => H) (yieldsIf_assign rfl _ rfl (v6) rfl) b6 ?_
  simp only [AP]
  refine wpAnyS_done (by kernel_rfl) ?_ _
  refine (by assumption : ∀ (a : Act) (w : World), _ → _) _ _ ?_
  clear hr5 hr6 b5 bd
  replace b6 := Lib.hid b6
  have x0 : W6.cell? ⟨W.heap.size, 0, none⟩ = some (.int .i64 0) := (K.out.below' b6.out).cell 0
  go_upto_region 8 with fail
  rename_i aK
  refine wp_region_seq ?_
  refine wpSeq_yield (S := fun _ => True) (v := .pointer (some ⟨W.heap.size, 0, none⟩)) (Or.inl ⟨by rfl, fun w' hw' => by go_simp⟩) trivial ?_
  simp only [AP]
  refine wpSeq_yield (S := fun w' => w' = W6) (v := .int .i64 0) (Or.inl ⟨by rfl, fun w' hw' => by (rw [hw']; go_simp)⟩) rfl ?_
  simp only [AP]
  refine wpSeq_yield (S := fun _ => True) (v := .bool true) (Or.inl ⟨by rfl, fun w' hw' => by go_simp⟩) trivial ?_
  simp only [AP]
  refine wpSeq_nil ?_
  refine (by assumption : ∀ (a : Act) (w : World), _ → _) _ _ ?_
  clear x0
  obtain ⟨v7, W7, hr7, O7, b7⟩ := append_new W6 W2.heap.size 24 v6 _ [0] O6.out (by simp only [List.length_append, List.length_cons, List.length_nil]; have := LM.out; omega) b6.out.size W2 b6.out
  clear O6
  replace O7 := Lib.hid O7
  replace b7 := Lib.hid b7
  go_upto_region 9 with fail
  rename_i aK
  refine wp_region_seq ?_
  refine wpSeq_yield (S := fun _ => True) (yieldsIf_move rfl _ rfl (v6) rfl) trivial ?_
  simp only [AP]
  refine wpSeq_wp rfl ?_
  unfold Oper.wp execOp
  go_simp
  refine wpSeq_wp rfl (wp_append_run _ _ _ _ rfl _ _ rfl rfl v7 W7 hr7 ?_)
  simp only [AP]
  refine wpSeq_yield (S := fun _ => True) (yieldsIf_assign rfl _ rfl (v7) rfl) trivial ?_
  simp only [AP]
  refine wpSeq_nil ?_
  refine (by assumption : ∀ (a : Act) (w : World), _ → _) _ _ ?_
  clear hr7 b6
  obtain ⟨t, ht2⟩ : ∃ t, k + z = t := ⟨_, rfl⟩
  obtain ⟨q, hq⟩ : ∃ q, t / 256 = q := ⟨_, rfl⟩
  obtain ⟨q6, hq6⟩ : ∃ q6, 64 + q = q6 := ⟨_, rfl⟩
  obtain ⟨r, hr9⟩ : ∃ r, t % 256 = r := ⟨_, rfl⟩
  have f0 : IntKind.i64.wrap ((k : Int) + (z : Int)) = (t : Int) := by rw [IntKind.wrap_i64]; omega
  have f1 : (t : Int).tdiv 256 = (q : Int) := by rw [Int.tdiv_eq_ediv_of_nonneg (by omega)]; omega
  have f2 : IntKind.i64.wrap (q : Int) = (q : Int) := by rw [IntKind.wrap_i64]; omega
  have f3 : IntKind.i64.wrap (64 + (q : Int)) = (q6 : Int) := by rw [IntKind.wrap_i64]; omega
  have f4 : IntKind.u8.wrap (q6 : Int) = (q6 : Int) := by rw [IntKind.wrap_u8]; omega
  have f5 : (t : Int).tmod 256 = (r : Int) := by rw [Int.tmod_eq_emod_of_nonneg (by omega)]; omega
  have f6 : IntKind.i64.wrap (r : Int) = (r : Int) := by rw [IntKind.wrap_i64]; omega
  have f7 : IntKind.u8.wrap (r : Int) = (r : Int) := by rw [IntKind.wrap_u8]; omega
  have Q := Lib.hid (show q6 = 64 + (k + z) / 256 ∧ r = (k + z) % 256 by omega)
  clear ht2 hq hq6 hr9
  obtain ⟨v8, W8, hr7, O8, b8⟩ := append_new W7 W2.heap.size 24 v7 _ [q6, r] O7.out (by simp only [List.length_append, List.length_cons, List.length_nil]; have := LM.out; omega) b7.out.size W2 b7.out
  clear O7
  replace O8 := Lib.hid O8
  replace b8 := Lib.hid b8
  go_upto_region 10 with fail
  rename_i aK
  refine wp_region_seq ?_
  refine wpSeq_yield (S := fun _ => True) (yieldsIf_move rfl _ rfl (v7) rfl) trivial ?_
  simp only [AP]
  refine wpSeq_yield (S := fun _ => True) (yieldsIf_move rfl _ rfl (.int .i64 (k : Int)) rfl) trivial ?_
  simp only [AP]
  refine wpSeq_yield (S := fun _ => True) (yieldsIf_move rfl _ rfl (.int .i64 (z : Int)) rfl) trivial ?_
  simp only [AP]
  refine wpSeq_yield (S := fun _ => True) (v := .int .i64 (t : Int)) (Or.inl ⟨by rfl, fun w' hw' => by go_simp⟩) trivial ?_
  simp only [AP]
  refine wpSeq_yield (S := fun _ => True) (v := .int .i64 (q : Int)) (Or.inl ⟨by rfl, fun w' hw' => by (go_simp; try omega)⟩) trivial ?_
  simp only [AP]
  refine wpSeq_yield (S := fun _ => True) (v := .int .i64 (q6 : Int)) (Or.inl ⟨by rfl, fun w' hw' => by go_simp⟩) trivial ?_
  simp only [AP]
  refine wpSeq_yield (S := fun _ => True) (v := .int .u8 (q6 : Int)) (Or.inl ⟨by rfl, fun w' hw' => by go_simp⟩) trivial ?_
  simp only [AP]
  refine wpSeq_yield (S := fun _ => True) (yieldsIf_move rfl _ rfl (.int .i64 (k : Int)) rfl) trivial ?_
  simp only [AP]
  refine wpSeq_yield (S := fun _ => True) (yieldsIf_move rfl _ rfl (.int .i64 (z : Int)) rfl) trivial ?_
  simp only [AP]
  refine wpSeq_yield (S := fun _ => True) (v := .int .i64 (t : Int)) (Or.inl ⟨by rfl, fun w' hw' => by go_simp⟩) trivial ?_
  simp only [AP]
  refine wpSeq_yield (S := fun _ => True) (v := .int .i64 (r : Int)) (Or.inl ⟨by rfl, fun w' hw' => by (go_simp; try omega)⟩) trivial ?_
  simp only [AP]
  refine wpSeq_yield (S := fun _ => True) (v := .int .u8 (r : Int)) (Or.inl ⟨by rfl, fun w' hw' => by go_simp⟩) trivial ?_
  simp only [AP]
  refine wpSeq_wp rfl ?_
  unfold Oper.wp execOp
  go_simp
  refine wpSeq_wp rfl (wp_append_run _ _ _ _ rfl _ _ rfl rfl v8 W8 hr7 ?_)
  simp only [AP]
  refine wpSeq_yield (S := fun _ => True) (yieldsIf_assign rfl _ rfl (v8) rfl) trivial ?_
  simp only [AP]
  refine wpSeq_nil ?_
  refine (by assumption : ∀ (a : Act) (w : World), _ → _) _ _ ?_
  clear hr7 b7 f0 f1 f2 f3 f4 f5 f6 f7
  obtain ⟨pre, hpre⟩ : ∃ pre, (((([y, 0, 0, 0, 1, 8] ++ to) ++ [8]) ++ fr) ++ [0]) ++ [q6, r] = pre := ⟨_, rfl⟩
  rw [hpre] at O8
  have PL : pre.length ≤ 200 := by
    rw [← hpre]
    simp only [List.length_append, List.length_cons, List.length_nil]
    have := LM.out
    omega
  have HB := Lib.hid (show headB 0 to fr pn k z = pre ++ beL pn k by
    rw [← hpre, ← hy, Q.out.1, Q.out.2]
    show (191 + 32 * 0 + k) :: (([0, 0, 0, 1] ++ ([8] ++ (to ++ ([8] ++ (fr ++ ([0] ++ [64 + (k + z) / 256, (k + z) % 256])))))) ++ beL pn k) = _
    simp only [List.append_assoc, List.cons_append, List.nil_append])
  clear Q
  clear hpre hy LM K h1 h2 MN
  have kk : IntKind.i64.wrap ((k : Int) - 1) = (k : Int) - 1 := by rw [IntKind.wrap_i64]; omega
  go_upto_region 11 with fail
  rename_i aK
  refine wp_region_seq ?_
  refine wpSeq_yield (S := fun _ => True) (yieldsIf_move rfl _ rfl (.int .i64 (k : Int)) rfl) trivial ?_
  simp only [AP]
  refine wpSeq_yield (S := fun _ => True) (v := .int .i64 ((k : Int) - 1)) (Or.inl ⟨by rfl, fun w' hw' => by go_simp⟩) trivial ?_
  simp only [AP]
  refine wpSeq_yield (S := fun _ => True) (yieldsIf_assign rfl _ rfl (.int .i64 ((k : Int) - 1)) rfl) trivial ?_
  simp only [AP]
  refine wpSeq_nil ?_
  refine (by assumption : ∀ (a : Act) (w : World), _ → _) _ _ ?_
  go_upto_region 12 with fail
  go_loopw [10, 11] (fun v t wr => ∃ (vv : Value) (j : Nat), vv = v ∧ j ≤ k ∧ t = .int .i64 ((j : Int) - 1) ∧ OwL W2.heap.size wr v (pre ++ (beL pn k).take (k - j)) ∧ Below W2.heap.size W2 wr) (fun _ t _ => (intOf t + 1).toNat)
  case atStart => exact ⟨_, k, rfl, Nat.le_refl _, rfl, by rw [Nat.sub_self, List.take_zero, List.append_nil]; exact O8.out, b8.out⟩
  case round =>
    clear O8 b8
    obtain ⟨vv, j, rfl, hj, rfl, O5, b5⟩ := hrel
    by_cases j0 : j = 0
    · subst j0
      rw [Nat.sub_zero, List.take_of_length_le (by rw [beL_length]; exact Nat.le_refl _), ← HB.out] at O5
      go_wp2
      refine bodyPost_ret (results_tmp2 rfl _ _ _) rfl ?_
      exact ⟨_, rfl, O5.mono b.out.size, b.out.trans (b5.mono b.out.size)⟩
    · obtain ⟨i, rfl⟩ : ∃ i, j = i + 1 := ⟨j - 1, by omega⟩
      have jm : ((i + 1 : Nat) : Int) - 1 = (i : Int) := by omega
      rw [jm]
      have ET := beL_take pn k i (by omega)
      obtain ⟨q, hq⟩ : ∃ q, pn / 256 ^ i = q := ⟨_, rfl⟩
      obtain ⟨y2, hy2⟩ : ∃ y, q % 256 = y := ⟨_, rfl⟩
      rw [hq, hy2] at ET
      have EV := Lib.hid ET
      have Q := Lib.hid (show (i = 0 ∧ pn = q) ∨ (i = 1 ∧ pn / 256 = q) ∨ (i = 2 ∧ pn / 65536 = q) ∨ (i = 3 ∧ pn / 16777216 = q) by
        have : i = 0 ∨ i = 1 ∨ i = 2 ∨ i = 3 := by omega
        rcases this with rfl | rfl | rfl | rfl
        · exact Or.inl ⟨rfl, by rw [← hq]; simp⟩
        · exact Or.inr (Or.inl ⟨rfl, hq⟩)
        · exact Or.inr (Or.inr (Or.inl ⟨rfl, hq⟩))
        · exact Or.inr (Or.inr (Or.inr ⟨rfl, hq⟩)))
      have f2 : IntKind.u8.wrap (q : Int) = (y2 : Int) := by rw [IntKind.wrap_u8]; omega
      have i0 : (0 : Int) ≤ (i : Int) := by omega
      clear ET hq hy2 jm j0
      obtain ⟨v9, W9, hr9, O9, b9⟩ := append_new wr W2.heap.size 24 _ _ [y2] O5 (by rw [List.length_append, List.length_take, beL_length]; simp only [List.length_cons, List.length_nil]; omega) b5.size W2 b5
      rw [List.append_assoc, EV.out] at O9
      replace O9 := Lib.hid O9
      have ic : IntKind.i64.wrap ((i : Int) - 1) = (i : Int) - 1 := by rw [IntKind.wrap_i64]; omega
      go_upto_region 14 with fail
      rename_i aK
      refine wp_region_seq ?_
      refine wpSeq_yield (S := fun _ => True) (yieldsIf_move rfl _ rfl (vv) rfl) trivial ?_
      simp only [AP]
      refine wpSeq_yield (S := fun _ => True) (yieldsIf_move rfl _ rfl (.int .u64 (pn : Int)) rfl) trivial ?_
      simp only [AP]
      refine wpSeq_yield (S := fun _ => True) (yieldsIf_move rfl _ rfl (.int .i64 (i : Int)) rfl) trivial ?_
      simp only [AP]
      refine wpSeq_yield (S := fun _ => True) (v := .int .i64 ((8 * i : Nat) : Int)) (Or.inl ⟨by rfl, fun w' hw' => by (rcases Q.out with ⟨rfl, rfl⟩ | ⟨rfl, rfl⟩ | ⟨rfl, rfl⟩ | ⟨rfl, rfl⟩ <;> go_simp <;> try (first | omega | decide))⟩) trivial ?_
      simp only [AP]
      refine wpSeq_yield (S := fun _ => True) (v := .int .u64 (q : Int)) (Or.inl ⟨by rfl, fun w' hw' => by (rcases Q.out with ⟨rfl, rfl⟩ | ⟨rfl, rfl⟩ | ⟨rfl, rfl⟩ | ⟨rfl, rfl⟩ <;> go_simp <;> try (first | omega | decide))⟩) trivial ?_
      simp only [AP]
      refine wpSeq_yield (S := fun _ => True) (v := .int .u8 (y2 : Int)) (Or.inl ⟨by rfl, fun w' hw' => by go_simp⟩) trivial ?_
      simp only [AP]
      refine wpSeq_wp rfl ?_
      unfold Oper.wp execOp
      go_simp
      refine wpSeq_wp rfl (wp_append_run _ _ _ _ rfl _ _ rfl rfl v9 W9 hr9 ?_)
      simp only [AP]
      refine wpSeq_yield (S := fun _ => True) (yieldsIf_assign rfl _ rfl (v9) rfl) trivial ?_
      simp only [AP]
      refine wpSeq_nil ?_
      refine (by assumption : ∀ (a : Act) (w : World), _ → _) _ _ ?_
      go_wp2
      exact ⟨⟨v9, i, rfl, by omega, rfl, O9.out, b9⟩, by simp only [intOf]; omega⟩
end Go.Proofs.YtpihgljdbpnehaaDoor
