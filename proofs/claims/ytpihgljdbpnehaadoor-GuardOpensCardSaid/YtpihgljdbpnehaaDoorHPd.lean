/- The program's Put (printed by gen12/pb.py). -/
import Derived.Test.YtpihgljdbpnehaaDoorHPc
namespace Go.Proofs.YtpihgljdbpnehaaDoor
open Go.RowKit
set_option maxHeartbeats 8000000 in
set_option maxRecDepth 100000 in
theorem put_bad (sp : Int) (to fr : List Nat) (pn : Nat) (k z : Int) (hb : badH sp to.length fr.length k z) (vt vf : Value) (W : World) (h1 : SB W vt to) (h2 : SB W vf fr) :
  Calls Tryd.prog 26 #[hdV sp vt vf, .int .u64 (pn : Int), .int .i64 k, .int .i64 z] W fun e w' => ∃ v, e = .returned (.tuple #[v, .int .i64 2]) ∧ OwL W.heap.size w' v [] ∧ Below W.heap.size W w' := by
 obtain ⟨p1, c1, rfl⟩ := h1.shape
 obtain ⟨p2, c2, rfl⟩ := h2.shape
 show Calls Tryd.prog 26 #[.agg #[.int .i64 sp, .slice p1 to.length c1, .slice p2 fr.length c2], .int .u64 (pn : Int), .int .i64 k, .int .i64 z] W _
 obtain ⟨m, hm⟩ : ∃ m, to.length = m := ⟨_, rfl⟩
 obtain ⟨n, hn⟩ : ∃ n, fr.length = n := ⟨_, rfl⟩
 have MN := Lib.hid (And.intro hm hn)
 rw [hm] at h1 hb
 rw [hn] at h2 hb
 rw [hm, hn]
 clear hm hn
 go_enter Tryd.func26, Tryd.ntmps26
 go_upto_region 0 with fail
 rename_i aK
 refine wp_region_seq ?_
 refine wpSeq_wp rfl ?_
 unfold Oper.wp execOp
 go_simp
 refine sas (.slice none 0 0) rfl rfl rfl ?_
 simp only [AP]
 refine sas (.int .i64 0) rfl rfl rfl ?_
 simp only [AP]
 refine wpSeq_nil ?_
 refine aK _ _ ?_
 clear aK
 have K := Blk.new W 42 #[.int .i64 sp, .slice p1 m c1, .slice p2 n c2]
 have b := (Below.refl W.heap.size W).alloc (Nat.le_refl _) (.cells #[.int .i64 sp, .slice p1 m c1, .slice p2 n c2] 42)
 have zz : W.heap.size < (W.alloc (.cells #[.int .i64 sp, .slice p1 m c1, .slice p2 n c2] 42)).heap.size := by rw [size_alloc1]; omega
 generalize World.alloc W _ = W2 at *
 have x0 : W2.cell? ⟨W.heap.size, 0, none⟩ = some (.int .i64 sp) := K.cell 0
 have x1 : W2.cell? ⟨W.heap.size, 1, none⟩ = some (.slice p1 m c1) := K.cell 1
 have x2 : W2.cell? ⟨W.heap.size, 2, none⟩ = some (.slice p2 n c2) := K.cell 2
 replace h1 := Lib.hid (h1.below b)
 replace h2 := Lib.hid (h2.below b)
 replace K := Lib.hid K
 replace b := Lib.hid b
 clear x0 x1 x2
 have CN := Lib.hid (show Calls Tryd.prog 44 #[.agg #[.int .i64 sp, .slice p1 m c1, .slice p2 n c2]] W2 _ from named_c sp to fr _ _ W2 h1.out h2.out)
 rw [MN.out.1, MN.out.2] at CN
 go_upto_region 1 with fail
 rename_i aK
 refine wp_region_seq ?_
 refine wpSeq_yield (S := fun w' => w' = W2) (load_hd rfl _ rfl W.heap.size rfl sp (.slice p1 m c1) (.slice p2 n c2) W2 K.out) rfl ?_
 simp only [AP]
 refine wpSeq_wp rfl ?_
 unfold Oper.wp execOp
 go_simp
 refine CN.out.mono ?_
 rintro _ w3 ⟨x, rfl, hx, b3⟩
 go_simp
 replace hx := Lib.hid hx
 replace K := Lib.hid (K.out.below' b3)
 replace h1 := Lib.hid (h1.out.below b3)
 replace h2 := Lib.hid (h2.out.below b3)
 replace zz : W.heap.size < w3.heap.size := by have := b3.size; omega
 replace b := Lib.hid (b.out.trans (b3.mono b.out.size))
 clear b3 CN
 clear h1 h2 K MN
 unfold badH at hb
 cases x with
 | false =>
  clear hx hb
  refine svl (.bool true) (.inl ⟨by rfl, fun w' _ => by (go_simp)⟩) ?_
  simp only [AP]
  refine smv (.bool true) rfl rfl rfl ?_
  simp only [AP]
  refine wpSeq_yield (S := fun _ => True) (yieldsIf_off rfl) trivial ?_
  simp only [AP]
  refine wpSeq_yield (S := fun _ => True) (yieldsIf_off rfl) trivial ?_
  simp only [AP]
  refine wpSeq_yield (S := fun _ => True) (yieldsIf_pick rfl _ _ _ rfl true rfl (.bool true) rfl) trivial ?_
  simp only [AP]
  refine smv (.bool true) rfl rfl rfl ?_
  simp only [AP]
  refine wpSeq_yield (S := fun _ => True) (yieldsIf_off rfl) trivial ?_
  simp only [AP]
  refine wpSeq_yield (S := fun _ => True) (yieldsIf_off rfl) trivial ?_
  simp only [AP]
  refine wpSeq_yield (S := fun _ => True) (yieldsIf_pick rfl _ _ _ rfl true rfl (.bool true) rfl) trivial ?_
  simp only [AP]
  refine smv (.bool true) rfl rfl rfl ?_
  simp only [AP]
  refine wpSeq_yield (S := fun _ => True) (yieldsIf_off rfl) trivial ?_
  simp only [AP]
  refine wpSeq_yield (S := fun _ => True) (yieldsIf_off rfl) trivial ?_
  simp only [AP]
  refine wpSeq_yield (S := fun _ => True) (yieldsIf_pick rfl _ _ _ rfl true rfl (.bool true) rfl) trivial ?_
  simp only [AP]
  refine smv (.bool true) rfl rfl rfl ?_
  simp only [AP]
  refine wpSeq_yield (S := fun _ => True) (yieldsIf_off rfl) trivial ?_
  simp only [AP]
  refine wpSeq_yield (S := fun _ => True) (yieldsIf_off rfl) trivial ?_
  simp only [AP]
  refine wpSeq_yield (S := fun _ => True) (yieldsIf_pick rfl _ _ _ rfl true rfl (.bool true) rfl) trivial ?_
  simp only [AP]
  refine wpSeq_nil ?_
  refine (by assumption : ∀ (a : Act) (w : World), _ → _) _ _ ?_
  go_upto_region 2 with fail
  rename_i aK
  refine wp_region_seq ?_
  refine sas (.slice none 0 0) rfl rfl rfl ?_
  simp only [AP]
  refine sas (.int .i64 2) rfl rfl rfl ?_
  simp only [AP]
  refine wpSeq_nil ?_
  refine (by assumption : ∀ (a : Act) (w : World), _ → _) _ _ ?_
  go_wp2
  refine bodyPost_ret (results_tmp2 rfl _ _ _) rfl ?_
  exact ⟨_, rfl, OwL.nil _ _, b.out⟩
 | true =>
  have hx := hx.out.1 rfl
  by_cases r1 : k < 1
  ·
   clear hx hb
   refine svl (.bool false) (.inl ⟨by rfl, fun w' _ => by (go_simp)⟩) ?_
   simp only [AP]
   refine smv (.bool false) rfl rfl rfl ?_
   simp only [AP]
   refine smv (.int .i64 k) rfl rfl rfl ?_
   simp only [AP]
   refine svl (.bool true) (.inl ⟨by rfl, fun w' _ => by (go_simp; try omega)⟩) ?_
   simp only [AP]
   refine wpSeq_yield (S := fun _ => True) (yieldsIf_pick rfl _ _ _ rfl false rfl (.bool true) rfl) trivial ?_
   simp only [AP]
   refine smv (.bool true) rfl rfl rfl ?_
   simp only [AP]
   refine wpSeq_yield (S := fun _ => True) (yieldsIf_off rfl) trivial ?_
   simp only [AP]
   refine wpSeq_yield (S := fun _ => True) (yieldsIf_off rfl) trivial ?_
   simp only [AP]
   refine wpSeq_yield (S := fun _ => True) (yieldsIf_pick rfl _ _ _ rfl true rfl (.bool true) rfl) trivial ?_
   simp only [AP]
   refine smv (.bool true) rfl rfl rfl ?_
   simp only [AP]
   refine wpSeq_yield (S := fun _ => True) (yieldsIf_off rfl) trivial ?_
   simp only [AP]
   refine wpSeq_yield (S := fun _ => True) (yieldsIf_off rfl) trivial ?_
   simp only [AP]
   refine wpSeq_yield (S := fun _ => True) (yieldsIf_pick rfl _ _ _ rfl true rfl (.bool true) rfl) trivial ?_
   simp only [AP]
   refine smv (.bool true) rfl rfl rfl ?_
   simp only [AP]
   refine wpSeq_yield (S := fun _ => True) (yieldsIf_off rfl) trivial ?_
   simp only [AP]
   refine wpSeq_yield (S := fun _ => True) (yieldsIf_off rfl) trivial ?_
   simp only [AP]
   refine wpSeq_yield (S := fun _ => True) (yieldsIf_pick rfl _ _ _ rfl true rfl (.bool true) rfl) trivial ?_
   simp only [AP]
   refine wpSeq_nil ?_
   refine (by assumption : ∀ (a : Act) (w : World), _ → _) _ _ ?_
   go_upto_region 2 with fail
   rename_i aK
   refine wp_region_seq ?_
   refine sas (.slice none 0 0) rfl rfl rfl ?_
   simp only [AP]
   refine sas (.int .i64 2) rfl rfl rfl ?_
   simp only [AP]
   refine wpSeq_nil ?_
   refine (by assumption : ∀ (a : Act) (w : World), _ → _) _ _ ?_
   go_wp2
   refine bodyPost_ret (results_tmp2 rfl _ _ _) rfl ?_
   exact ⟨_, rfl, OwL.nil _ _, b.out⟩
  by_cases r2 : 4 < k
  ·
   clear hx hb
   refine svl (.bool false) (.inl ⟨by rfl, fun w' _ => by (go_simp)⟩) ?_
   simp only [AP]
   refine smv (.bool false) rfl rfl rfl ?_
   simp only [AP]
   refine smv (.int .i64 k) rfl rfl rfl ?_
   simp only [AP]
   refine svl (.bool false) (.inl ⟨by rfl, fun w' _ => by (go_simp; try omega)⟩) ?_
   simp only [AP]
   refine wpSeq_yield (S := fun _ => True) (yieldsIf_pick rfl _ _ _ rfl false rfl (.bool false) rfl) trivial ?_
   simp only [AP]
   refine smv (.bool false) rfl rfl rfl ?_
   simp only [AP]
   refine smv (.int .i64 k) rfl rfl rfl ?_
   simp only [AP]
   refine svl (.bool true) (.inl ⟨by rfl, fun w' _ => by (go_simp; try omega)⟩) ?_
   simp only [AP]
   refine wpSeq_yield (S := fun _ => True) (yieldsIf_pick rfl _ _ _ rfl false rfl (.bool true) rfl) trivial ?_
   simp only [AP]
   refine smv (.bool true) rfl rfl rfl ?_
   simp only [AP]
   refine wpSeq_yield (S := fun _ => True) (yieldsIf_off rfl) trivial ?_
   simp only [AP]
   refine wpSeq_yield (S := fun _ => True) (yieldsIf_off rfl) trivial ?_
   simp only [AP]
   refine wpSeq_yield (S := fun _ => True) (yieldsIf_pick rfl _ _ _ rfl true rfl (.bool true) rfl) trivial ?_
   simp only [AP]
   refine smv (.bool true) rfl rfl rfl ?_
   simp only [AP]
   refine wpSeq_yield (S := fun _ => True) (yieldsIf_off rfl) trivial ?_
   simp only [AP]
   refine wpSeq_yield (S := fun _ => True) (yieldsIf_off rfl) trivial ?_
   simp only [AP]
   refine wpSeq_yield (S := fun _ => True) (yieldsIf_pick rfl _ _ _ rfl true rfl (.bool true) rfl) trivial ?_
   simp only [AP]
   refine wpSeq_nil ?_
   refine (by assumption : ∀ (a : Act) (w : World), _ → _) _ _ ?_
   go_upto_region 2 with fail
   rename_i aK
   refine wp_region_seq ?_
   refine sas (.slice none 0 0) rfl rfl rfl ?_
   simp only [AP]
   refine sas (.int .i64 2) rfl rfl rfl ?_
   simp only [AP]
   refine wpSeq_nil ?_
   refine (by assumption : ∀ (a : Act) (w : World), _ → _) _ _ ?_
   go_wp2
   refine bodyPost_ret (results_tmp2 rfl _ _ _) rfl ?_
   exact ⟨_, rfl, OwL.nil _ _, b.out⟩
  by_cases r3 : z < 0
  ·
   clear hx hb
   refine svl (.bool false) (.inl ⟨by rfl, fun w' _ => by (go_simp)⟩) ?_
   simp only [AP]
   refine smv (.bool false) rfl rfl rfl ?_
   simp only [AP]
   refine smv (.int .i64 k) rfl rfl rfl ?_
   simp only [AP]
   refine svl (.bool false) (.inl ⟨by rfl, fun w' _ => by (go_simp; try omega)⟩) ?_
   simp only [AP]
   refine wpSeq_yield (S := fun _ => True) (yieldsIf_pick rfl _ _ _ rfl false rfl (.bool false) rfl) trivial ?_
   simp only [AP]
   refine smv (.bool false) rfl rfl rfl ?_
   simp only [AP]
   refine smv (.int .i64 k) rfl rfl rfl ?_
   simp only [AP]
   refine svl (.bool false) (.inl ⟨by rfl, fun w' _ => by (go_simp; try omega)⟩) ?_
   simp only [AP]
   refine wpSeq_yield (S := fun _ => True) (yieldsIf_pick rfl _ _ _ rfl false rfl (.bool false) rfl) trivial ?_
   simp only [AP]
   refine smv (.bool false) rfl rfl rfl ?_
   simp only [AP]
   refine smv (.int .i64 z) rfl rfl rfl ?_
   simp only [AP]
   refine svl (.bool true) (.inl ⟨by rfl, fun w' _ => by (go_simp; try omega)⟩) ?_
   simp only [AP]
   refine wpSeq_yield (S := fun _ => True) (yieldsIf_pick rfl _ _ _ rfl false rfl (.bool true) rfl) trivial ?_
   simp only [AP]
   refine smv (.bool true) rfl rfl rfl ?_
   simp only [AP]
   refine wpSeq_yield (S := fun _ => True) (yieldsIf_off rfl) trivial ?_
   simp only [AP]
   refine wpSeq_yield (S := fun _ => True) (yieldsIf_off rfl) trivial ?_
   simp only [AP]
   refine wpSeq_yield (S := fun _ => True) (yieldsIf_pick rfl _ _ _ rfl true rfl (.bool true) rfl) trivial ?_
   simp only [AP]
   refine wpSeq_nil ?_
   refine (by assumption : ∀ (a : Act) (w : World), _ → _) _ _ ?_
   go_upto_region 2 with fail
   rename_i aK
   refine wp_region_seq ?_
   refine sas (.slice none 0 0) rfl rfl rfl ?_
   simp only [AP]
   refine sas (.int .i64 2) rfl rfl rfl ?_
   simp only [AP]
   refine wpSeq_nil ?_
   refine (by assumption : ∀ (a : Act) (w : World), _ → _) _ _ ?_
   go_wp2
   refine bodyPost_ret (results_tmp2 rfl _ _ _) rfl ?_
   exact ⟨_, rfl, OwL.nil _ _, b.out⟩
  have r4 : 1200 < z := by omega
  clear hx hb
  refine svl (.bool false) (.inl ⟨by rfl, fun w' _ => by (go_simp)⟩) ?_
  simp only [AP]
  refine smv (.bool false) rfl rfl rfl ?_
  simp only [AP]
  refine smv (.int .i64 k) rfl rfl rfl ?_
  simp only [AP]
  refine svl (.bool false) (.inl ⟨by rfl, fun w' _ => by (go_simp; try omega)⟩) ?_
  simp only [AP]
  refine wpSeq_yield (S := fun _ => True) (yieldsIf_pick rfl _ _ _ rfl false rfl (.bool false) rfl) trivial ?_
  simp only [AP]
  refine smv (.bool false) rfl rfl rfl ?_
  simp only [AP]
  refine smv (.int .i64 k) rfl rfl rfl ?_
  simp only [AP]
  refine svl (.bool false) (.inl ⟨by rfl, fun w' _ => by (go_simp; try omega)⟩) ?_
  simp only [AP]
  refine wpSeq_yield (S := fun _ => True) (yieldsIf_pick rfl _ _ _ rfl false rfl (.bool false) rfl) trivial ?_
  simp only [AP]
  refine smv (.bool false) rfl rfl rfl ?_
  simp only [AP]
  refine smv (.int .i64 z) rfl rfl rfl ?_
  simp only [AP]
  refine svl (.bool false) (.inl ⟨by rfl, fun w' _ => by (go_simp; try omega)⟩) ?_
  simp only [AP]
  refine wpSeq_yield (S := fun _ => True) (yieldsIf_pick rfl _ _ _ rfl false rfl (.bool false) rfl) trivial ?_
  simp only [AP]
  refine smv (.bool false) rfl rfl rfl ?_
  simp only [AP]
  refine smv (.int .i64 z) rfl rfl rfl ?_
  simp only [AP]
  refine svl (.bool true) (.inl ⟨by rfl, fun w' _ => by (go_simp; try omega)⟩) ?_
  simp only [AP]
  refine wpSeq_yield (S := fun _ => True) (yieldsIf_pick rfl _ _ _ rfl false rfl (.bool true) rfl) trivial ?_
  simp only [AP]
  refine wpSeq_nil ?_
  refine (by assumption : ∀ (a : Act) (w : World), _ → _) _ _ ?_
  go_upto_region 2 with fail
  rename_i aK
  refine wp_region_seq ?_
  refine sas (.slice none 0 0) rfl rfl rfl ?_
  simp only [AP]
  refine sas (.int .i64 2) rfl rfl rfl ?_
  simp only [AP]
  refine wpSeq_nil ?_
  refine (by assumption : ∀ (a : Act) (w : World), _ → _) _ _ ?_
  go_wp2
  refine bodyPost_ret (results_tmp2 rfl _ _ _) rfl ?_
  exact ⟨_, rfl, OwL.nil _ _, b.out⟩
set_option maxHeartbeats 8000000 in
set_option maxRecDepth 100000 in
theorem put_zero (to fr : List Nat) (pn k z : Nat) (m8 : to.length = 8) (n8 : fr.length = 8) (k4 : 1 ≤ k ∧ k ≤ 4) (z4 : z ≤ 1200) (vt vf : Value) (W : World) (_hp : pn < 18446744073709551616) (h1 : SB W vt to) (h2 : SB W vf fr) :
  Calls Tryd.prog 26 #[hdV 0 vt vf, .int .u64 (pn : Int), .int .i64 (k : Int), .int .i64 (z : Int)] W fun e w' => ∃ v, e = .returned (.tuple #[v, .int .i64 0]) ∧ OwL W.heap.size w' v (headB 0 to fr pn k z) ∧ Below W.heap.size W w' := by
 obtain ⟨p1, c1, rfl⟩ := h1.shape
 obtain ⟨p2, c2, rfl⟩ := h2.shape
 show Calls Tryd.prog 26 #[.agg #[.int .i64 0, .slice p1 to.length c1, .slice p2 fr.length c2], .int .u64 (pn : Int), .int .i64 (k : Int), .int .i64 (z : Int)] W _
 have LM := Lib.hid (And.intro m8 n8)
 rw [m8] at h1 ⊢
 rw [n8] at h2 ⊢
 clear m8 n8
 go_enter Tryd.func26, Tryd.ntmps26
 go_upto_region 0 with fail
 rename_i aK
 refine wp_region_seq ?_
 refine wpSeq_wp rfl ?_
 unfold Oper.wp execOp
 go_simp
 refine sas (.slice none 0 0) rfl rfl rfl ?_
 simp only [AP]
 refine sas (.int .i64 0) rfl rfl rfl ?_
 simp only [AP]
 refine wpSeq_nil ?_
 refine aK _ _ ?_
 clear aK
 have K := Blk.new W 42 #[.int .i64 0, .slice p1 8 c1, .slice p2 8 c2]
 have b := (Below.refl W.heap.size W).alloc (Nat.le_refl _) (.cells #[.int .i64 0, .slice p1 8 c1, .slice p2 8 c2] 42)
 have zz : W.heap.size < (W.alloc (.cells #[.int .i64 0, .slice p1 8 c1, .slice p2 8 c2] 42)).heap.size := by rw [size_alloc1]; omega
 generalize World.alloc W _ = W2 at *
 have x0 : W2.cell? ⟨W.heap.size, 0, none⟩ = some (.int .i64 0) := K.cell 0
 have x1 : W2.cell? ⟨W.heap.size, 1, none⟩ = some (.slice p1 8 c1) := K.cell 1
 have x2 : W2.cell? ⟨W.heap.size, 2, none⟩ = some (.slice p2 8 c2) := K.cell 2
 replace h1 := Lib.hid (h1.below b)
 replace h2 := Lib.hid (h2.below b)
 replace K := Lib.hid K
 replace b := Lib.hid b
 clear x0 x1 x2
 have CN := Lib.hid (show Calls Tryd.prog 44 #[.agg #[.int .i64 0, .slice p1 8 c1, .slice p2 8 c2]] W2 _ from named_c 0 to fr _ _ W2 h1.out h2.out)
 go_upto_region 1 with fail
 rename_i aK
 refine wp_region_seq ?_
 refine wpSeq_yield (S := fun w' => w' = W2) (load_hd rfl _ rfl W.heap.size rfl 0 (.slice p1 8 c1) (.slice p2 8 c2) W2 K.out) rfl ?_
 simp only [AP]
 refine wpSeq_wp rfl ?_
 unfold Oper.wp execOp
 go_simp
 refine CN.out.mono ?_
 rintro _ w3 ⟨x, rfl, hx, b3⟩
 go_simp
 replace hx := Lib.hid hx
 replace K := Lib.hid (K.out.below' b3)
 replace h1 := Lib.hid (h1.out.below b3)
 replace h2 := Lib.hid (h2.out.below b3)
 replace zz : W.heap.size < w3.heap.size := by have := b3.size; omega
 replace b := Lib.hid (b.out.trans (b3.mono b.out.size))
 clear b3 CN
 obtain rfl : x = true := hx.out.2 (by have := LM.out; omega)
 clear hx
 refine svl (.bool false) (.inl ⟨by rfl, fun w' _ => by (go_simp)⟩) ?_
 simp only [AP]
 refine smv (.bool false) rfl rfl rfl ?_
 simp only [AP]
 refine smv (.int .i64 (k : Int)) rfl rfl rfl ?_
 simp only [AP]
 refine svl (.bool false) (.inl ⟨by rfl, fun w' _ => by (go_simp; try omega)⟩) ?_
 simp only [AP]
 refine wpSeq_yield (S := fun _ => True) (yieldsIf_pick rfl _ _ _ rfl false rfl (.bool false) rfl) trivial ?_
 simp only [AP]
 refine smv (.bool false) rfl rfl rfl ?_
 simp only [AP]
 refine smv (.int .i64 (k : Int)) rfl rfl rfl ?_
 simp only [AP]
 refine svl (.bool false) (.inl ⟨by rfl, fun w' _ => by (go_simp; try omega)⟩) ?_
 simp only [AP]
 refine wpSeq_yield (S := fun _ => True) (yieldsIf_pick rfl _ _ _ rfl false rfl (.bool false) rfl) trivial ?_
 simp only [AP]
 refine smv (.bool false) rfl rfl rfl ?_
 simp only [AP]
 refine smv (.int .i64 (z : Int)) rfl rfl rfl ?_
 simp only [AP]
 refine svl (.bool false) (.inl ⟨by rfl, fun w' _ => by (go_simp; try omega)⟩) ?_
 simp only [AP]
 refine wpSeq_yield (S := fun _ => True) (yieldsIf_pick rfl _ _ _ rfl false rfl (.bool false) rfl) trivial ?_
 simp only [AP]
 refine smv (.bool false) rfl rfl rfl ?_
 simp only [AP]
 refine smv (.int .i64 (z : Int)) rfl rfl rfl ?_
 simp only [AP]
 refine svl (.bool false) (.inl ⟨by rfl, fun w' _ => by (go_simp; try omega)⟩) ?_
 simp only [AP]
 refine wpSeq_yield (S := fun _ => True) (yieldsIf_pick rfl _ _ _ rfl false rfl (.bool false) rfl) trivial ?_
 simp only [AP]
 refine wpSeq_nil ?_
 refine (by assumption : ∀ (a : Act) (w : World), _ → _) _ _ ?_
 go_upto_region 3 with fail
 rename_i aK
 refine wp_region_seq ?_
 refine sas (.slice none 0 0) rfl rfl rfl ?_
 simp only [AP]
 refine wpSeq_nil ?_
 refine (by assumption : ∀ (a : Act) (w : World), _ → _) _ _ ?_
 have x0 : w3.cell? ⟨W.heap.size, 0, none⟩ = some (.int .i64 0) := K.out.cell 0
 go_upto_region 4 with fail
 rename_i aK
 refine wp_region_seq ?_
 refine svl (.pointer (some ⟨W.heap.size, 0, none⟩)) (.inl ⟨by rfl, fun w' _ => by go_simp⟩) ?_
 simp only [AP]
 refine wpSeq_yield (S := fun w' => w' = w3) (v := .int .i64 0) (Or.inl ⟨by rfl, fun w' hw' => by (rw [hw']; go_simp)⟩) rfl ?_
 simp only [AP]
 refine svl (.bool false) (.inl ⟨by rfl, fun w' _ => by go_simp⟩) ?_
 simp only [AP]
 refine wpSeq_nil ?_
 refine (by assumption : ∀ (a : Act) (w : World), _ → _) _ _ ?_
 clear x0
 obtain ⟨t, ht⟩ : ∃ t, k + z = t := ⟨_, rfl⟩
 have f0 : IntKind.i64.wrap ((k : Int) + (z : Int)) = (t : Int) := by rw [IntKind.wrap_i64]; omega
 have CL := Lib.hid (show Calls Tryd.prog 45 #[.agg #[.int .i64 0, .slice p1 8 c1, .slice p2 8 c2], .int .i64 (k : Int), .int .i64 (t : Int)] w3 _ from lay_zero to fr k t LM.out.1 LM.out.2 k4 (by omega) _ _ w3 h1.out h2.out)
 go_upto_region 7 with fail
 rename_i aK
 refine wp_region_seq ?_
 refine wpSeq_yield (S := fun w' => w' = w3) (load_hd rfl _ rfl W.heap.size rfl 0 (.slice p1 8 c1) (.slice p2 8 c2) w3 K.out) rfl ?_
 simp only [AP]
 refine smv (.int .i64 (k : Int)) rfl rfl rfl ?_
 simp only [AP]
 refine smv (.int .i64 (k : Int)) rfl rfl rfl ?_
 simp only [AP]
 refine smv (.int .i64 (z : Int)) rfl rfl rfl ?_
 simp only [AP]
 refine svl (.int .i64 (t : Int)) (.inl ⟨by rfl, fun w' _ => by go_simp⟩) ?_
 simp only [AP]
 refine wpSeq_wp rfl ?_
 unfold Oper.wp execOp
 go_simp
 refine CL.out.mono ?_
 rintro _ W5 ⟨v5, rfl, O5, b5⟩
 replace O5 := Lib.hid O5
 replace b5 := Lib.hid b5
 go_simp
 refine sas (v5) rfl rfl rfl ?_
 simp only [AP]
 refine wpSeq_nil ?_
 refine (by assumption : ∀ (a : Act) (w : World), _ → _) _ _ ?_
 clear CL f0
 obtain ⟨pre, hpre⟩ : ∃ pre, (191 + k) :: longB 0 to fr t = pre := ⟨_, rfl⟩
 rw [hpre] at O5
 have PL : pre.length ≤ 200 := by
  rw [← hpre]
  have lz : (zeroB 0).length ≤ 1 := by decide
  unfold longB
  simp only [List.length_append, List.length_cons, List.length_nil]
  have := LM.out
  omega
 have HB := Lib.hid (show headB 0 to fr pn k z = pre ++ beL pn k by
  rw [← hpre, ← ht]
  rfl)
 clear ht
 clear hpre LM K h1 h2
 have kk : IntKind.i64.wrap ((k : Int) - 1) = (k : Int) - 1 := by rw [IntKind.wrap_i64]; omega
 go_upto_region 8 with fail
 rename_i aK
 refine wp_region_seq ?_
 refine smv (.int .i64 (k : Int)) rfl rfl rfl ?_
 simp only [AP]
 refine svl (.int .i64 ((k : Int) - 1)) (.inl ⟨by rfl, fun w' _ => by go_simp⟩) ?_
 simp only [AP]
 refine sas (.int .i64 ((k : Int) - 1)) rfl rfl rfl ?_
 simp only [AP]
 refine wpSeq_nil ?_
 refine (by assumption : ∀ (a : Act) (w : World), _ → _) _ _ ?_
 go_upto_region 9 with fail
 go_loopw [10, 11] (fun v t wr => ∃ (vv : Value) (j : Nat), vv = v ∧ j ≤ k ∧ t = .int .i64 ((j : Int) - 1) ∧ OwL w3.heap.size wr v (pre ++ (beL pn k).take (k - j)) ∧ Below w3.heap.size w3 wr) (fun _ t _ => (intOf t + 1).toNat)
 case atStart => exact ⟨_, k, rfl, Nat.le_refl _, rfl, by rw [Nat.sub_self, List.take_zero, List.append_nil]; exact O5.out, b5.out⟩
 case round =>
  clear O5 b5
  obtain ⟨vv, j, rfl, hj, rfl, O5, b5⟩ := hrel
  by_cases j0 : j = 0
  ·
   subst j0
   rw [Nat.sub_zero, List.take_of_length_le (by rw [beL_length]; exact Nat.le_refl _), ← HB.out] at O5
   go_wp2
   refine bodyPost_ret (results_tmp2 rfl _ _ _) rfl ?_
   exact ⟨_, rfl, O5.mono b.out.size, b.out.trans (b5.mono b.out.size)⟩
  ·
   obtain ⟨i, rfl⟩ : ∃ i, j = i + 1 := ⟨j - 1, by omega⟩
   have jm : ((i + 1 : Nat) : Int) - 1 = (i : Int) := by omega
   rw [jm]
   have ET := beL_take pn k i (by omega)
   obtain ⟨q, hq⟩ : ∃ q, pn / 256 ^ i = q := ⟨_, rfl⟩
   obtain ⟨y2, hy2⟩ : ∃ y, q % 256 = y := ⟨_, rfl⟩
   rw [hq, hy2] at ET
   have EV := Lib.hid ET
   have Q := Lib.hid (show (i = 0 ∧ pn = q) ∨ (i = 1 ∧ pn / 256 = q) ∨ (i = 2 ∧ pn / 65536 = q) ∨ (i = 3 ∧ pn / 16777216 = q) by
    have : i = 0 ∨ i = 1 ∨ i = 2 ∨ i = 3 := by omega
    rcases this with rfl | rfl | rfl | rfl
    · exact Or.inl ⟨rfl, by rw [← hq]; simp⟩
    · exact Or.inr (Or.inl ⟨rfl, hq⟩)
    · exact Or.inr (Or.inr (Or.inl ⟨rfl, hq⟩))
    · exact Or.inr (Or.inr (Or.inr ⟨rfl, hq⟩)))
   have f2 : IntKind.u8.wrap (q : Int) = (y2 : Int) := by rw [IntKind.wrap_u8]; omega
   have i0 : (0 : Int) ≤ (i : Int) := by omega
   clear ET hq hy2 jm j0
   obtain ⟨v9, W9, hr9, O9, b9⟩ := append_new wr w3.heap.size 24 _ _ [y2] O5 (by rw [List.length_append, List.length_take, beL_length]; simp only [List.length_cons, List.length_nil]; omega) b5.size w3 b5
   rw [List.append_assoc, EV.out] at O9
   replace O9 := Lib.hid O9
   have ic : IntKind.i64.wrap ((i : Int) - 1) = (i : Int) - 1 := by rw [IntKind.wrap_i64]; omega
   go_upto_region 11 with fail
   rename_i aK
   refine wp_region_seq ?_
   refine smv (vv) rfl rfl rfl ?_
   simp only [AP]
   refine smv (.int .u64 (pn : Int)) rfl rfl rfl ?_
   simp only [AP]
   refine smv (.int .i64 (i : Int)) rfl rfl rfl ?_
   simp only [AP]
   refine svl (.int .i64 ((8 * i : Nat) : Int)) (.inl ⟨by rfl, fun w' _ => by (rcases Q.out with ⟨rfl, rfl⟩ | ⟨rfl, rfl⟩ | ⟨rfl, rfl⟩ | ⟨rfl, rfl⟩ <;> go_simp <;> try (first | omega | decide))⟩) ?_
   simp only [AP]
   refine svl (.int .u64 (q : Int)) (.inl ⟨by rfl, fun w' _ => by (rcases Q.out with ⟨rfl, rfl⟩ | ⟨rfl, rfl⟩ | ⟨rfl, rfl⟩ | ⟨rfl, rfl⟩ <;> go_simp <;> try (first | omega | decide))⟩) ?_
   simp only [AP]
   refine svl (.int .u8 (y2 : Int)) (.inl ⟨by rfl, fun w' _ => by go_simp⟩) ?_
   simp only [AP]
   refine wpSeq_wp rfl ?_
   unfold Oper.wp execOp
   go_simp
   refine wpSeq_wp rfl (wp_append_run _ _ _ _ rfl _ _ rfl rfl v9 W9 hr9 ?_)
   simp only [AP]
   refine sas (v9) rfl rfl rfl ?_
   simp only [AP]
   refine wpSeq_nil ?_
   refine (by assumption : ∀ (a : Act) (w : World), _ → _) _ _ ?_
   go_wp2
   exact ⟨⟨v9, i, rfl, by omega, rfl, O9.out, b9⟩, by simp only [intOf]; omega⟩
set_option maxHeartbeats 8000000 in
set_option maxRecDepth 100000 in
theorem put_one (to fr : List Nat) (pn k z : Nat) (m8 : to.length = 8) (n8 : fr.length = 8) (k4 : 1 ≤ k ∧ k ≤ 4) (z4 : z ≤ 1200) (vt vf : Value) (W : World) (_hp : pn < 18446744073709551616) (h1 : SB W vt to) (h2 : SB W vf fr) :
  Calls Tryd.prog 26 #[hdV 1 vt vf, .int .u64 (pn : Int), .int .i64 (k : Int), .int .i64 (z : Int)] W fun e w' => ∃ v, e = .returned (.tuple #[v, .int .i64 0]) ∧ OwL W.heap.size w' v (headB 1 to fr pn k z) ∧ Below W.heap.size W w' := by
 obtain ⟨p1, c1, rfl⟩ := h1.shape
 obtain ⟨p2, c2, rfl⟩ := h2.shape
 show Calls Tryd.prog 26 #[.agg #[.int .i64 1, .slice p1 to.length c1, .slice p2 fr.length c2], .int .u64 (pn : Int), .int .i64 (k : Int), .int .i64 (z : Int)] W _
 have LM := Lib.hid (And.intro m8 n8)
 rw [m8] at h1 ⊢
 rw [n8] at h2 ⊢
 clear m8 n8
 go_enter Tryd.func26, Tryd.ntmps26
 go_upto_region 0 with fail
 rename_i aK
 refine wp_region_seq ?_
 refine wpSeq_wp rfl ?_
 unfold Oper.wp execOp
 go_simp
 refine sas (.slice none 0 0) rfl rfl rfl ?_
 simp only [AP]
 refine sas (.int .i64 0) rfl rfl rfl ?_
 simp only [AP]
 refine wpSeq_nil ?_
 refine aK _ _ ?_
 clear aK
 have K := Blk.new W 42 #[.int .i64 1, .slice p1 8 c1, .slice p2 8 c2]
 have b := (Below.refl W.heap.size W).alloc (Nat.le_refl _) (.cells #[.int .i64 1, .slice p1 8 c1, .slice p2 8 c2] 42)
 have zz : W.heap.size < (W.alloc (.cells #[.int .i64 1, .slice p1 8 c1, .slice p2 8 c2] 42)).heap.size := by rw [size_alloc1]; omega
 generalize World.alloc W _ = W2 at *
 have x0 : W2.cell? ⟨W.heap.size, 0, none⟩ = some (.int .i64 1) := K.cell 0
 have x1 : W2.cell? ⟨W.heap.size, 1, none⟩ = some (.slice p1 8 c1) := K.cell 1
 have x2 : W2.cell? ⟨W.heap.size, 2, none⟩ = some (.slice p2 8 c2) := K.cell 2
 replace h1 := Lib.hid (h1.below b)
 replace h2 := Lib.hid (h2.below b)
 replace K := Lib.hid K
 replace b := Lib.hid b
 clear x0 x1 x2
 have CN := Lib.hid (show Calls Tryd.prog 44 #[.agg #[.int .i64 1, .slice p1 8 c1, .slice p2 8 c2]] W2 _ from named_c 1 to fr _ _ W2 h1.out h2.out)
 go_upto_region 1 with fail
 rename_i aK
 refine wp_region_seq ?_
 refine wpSeq_yield (S := fun w' => w' = W2) (load_hd rfl _ rfl W.heap.size rfl 1 (.slice p1 8 c1) (.slice p2 8 c2) W2 K.out) rfl ?_
 simp only [AP]
 refine wpSeq_wp rfl ?_
 unfold Oper.wp execOp
 go_simp
 refine CN.out.mono ?_
 rintro _ w3 ⟨x, rfl, hx, b3⟩
 go_simp
 replace hx := Lib.hid hx
 replace K := Lib.hid (K.out.below' b3)
 replace h1 := Lib.hid (h1.out.below b3)
 replace h2 := Lib.hid (h2.out.below b3)
 replace zz : W.heap.size < w3.heap.size := by have := b3.size; omega
 replace b := Lib.hid (b.out.trans (b3.mono b.out.size))
 clear b3 CN
 obtain rfl : x = true := hx.out.2 (by have := LM.out; omega)
 clear hx
 refine svl (.bool false) (.inl ⟨by rfl, fun w' _ => by (go_simp)⟩) ?_
 simp only [AP]
 refine smv (.bool false) rfl rfl rfl ?_
 simp only [AP]
 refine smv (.int .i64 (k : Int)) rfl rfl rfl ?_
 simp only [AP]
 refine svl (.bool false) (.inl ⟨by rfl, fun w' _ => by (go_simp; try omega)⟩) ?_
 simp only [AP]
 refine wpSeq_yield (S := fun _ => True) (yieldsIf_pick rfl _ _ _ rfl false rfl (.bool false) rfl) trivial ?_
 simp only [AP]
 refine smv (.bool false) rfl rfl rfl ?_
 simp only [AP]
 refine smv (.int .i64 (k : Int)) rfl rfl rfl ?_
 simp only [AP]
 refine svl (.bool false) (.inl ⟨by rfl, fun w' _ => by (go_simp; try omega)⟩) ?_
 simp only [AP]
 refine wpSeq_yield (S := fun _ => True) (yieldsIf_pick rfl _ _ _ rfl false rfl (.bool false) rfl) trivial ?_
 simp only [AP]
 refine smv (.bool false) rfl rfl rfl ?_
 simp only [AP]
 refine smv (.int .i64 (z : Int)) rfl rfl rfl ?_
 simp only [AP]
 refine svl (.bool false) (.inl ⟨by rfl, fun w' _ => by (go_simp; try omega)⟩) ?_
 simp only [AP]
 refine wpSeq_yield (S := fun _ => True) (yieldsIf_pick rfl _ _ _ rfl false rfl (.bool false) rfl) trivial ?_
 simp only [AP]
 refine smv (.bool false) rfl rfl rfl ?_
 simp only [AP]
 refine smv (.int .i64 (z : Int)) rfl rfl rfl ?_
 simp only [AP]
 refine svl (.bool false) (.inl ⟨by rfl, fun w' _ => by (go_simp; try omega)⟩) ?_
 simp only [AP]
 refine wpSeq_yield (S := fun _ => True) (yieldsIf_pick rfl _ _ _ rfl false rfl (.bool false) rfl) trivial ?_
 simp only [AP]
 refine wpSeq_nil ?_
 refine (by assumption : ∀ (a : Act) (w : World), _ → _) _ _ ?_
 go_upto_region 3 with fail
 rename_i aK
 refine wp_region_seq ?_
 refine sas (.slice none 0 0) rfl rfl rfl ?_
 simp only [AP]
 refine wpSeq_nil ?_
 refine (by assumption : ∀ (a : Act) (w : World), _ → _) _ _ ?_
 have x0 : w3.cell? ⟨W.heap.size, 0, none⟩ = some (.int .i64 1) := K.out.cell 0
 go_upto_region 4 with fail
 rename_i aK
 refine wp_region_seq ?_
 refine svl (.pointer (some ⟨W.heap.size, 0, none⟩)) (.inl ⟨by rfl, fun w' _ => by go_simp⟩) ?_
 simp only [AP]
 refine wpSeq_yield (S := fun w' => w' = w3) (v := .int .i64 1) (Or.inl ⟨by rfl, fun w' hw' => by (rw [hw']; go_simp)⟩) rfl ?_
 simp only [AP]
 refine svl (.bool false) (.inl ⟨by rfl, fun w' _ => by go_simp⟩) ?_
 simp only [AP]
 refine wpSeq_nil ?_
 refine (by assumption : ∀ (a : Act) (w : World), _ → _) _ _ ?_
 clear x0
 obtain ⟨t, ht⟩ : ∃ t, k + z = t := ⟨_, rfl⟩
 have f0 : IntKind.i64.wrap ((k : Int) + (z : Int)) = (t : Int) := by rw [IntKind.wrap_i64]; omega
 have CL := Lib.hid (show Calls Tryd.prog 45 #[.agg #[.int .i64 1, .slice p1 8 c1, .slice p2 8 c2], .int .i64 (k : Int), .int .i64 (t : Int)] w3 _ from lay_one to fr k t LM.out.1 LM.out.2 k4 (by omega) _ _ w3 h1.out h2.out)
 go_upto_region 7 with fail
 rename_i aK
 refine wp_region_seq ?_
 refine wpSeq_yield (S := fun w' => w' = w3) (load_hd rfl _ rfl W.heap.size rfl 1 (.slice p1 8 c1) (.slice p2 8 c2) w3 K.out) rfl ?_
 simp only [AP]
 refine smv (.int .i64 (k : Int)) rfl rfl rfl ?_
 simp only [AP]
 refine smv (.int .i64 (k : Int)) rfl rfl rfl ?_
 simp only [AP]
 refine smv (.int .i64 (z : Int)) rfl rfl rfl ?_
 simp only [AP]
 refine svl (.int .i64 (t : Int)) (.inl ⟨by rfl, fun w' _ => by go_simp⟩) ?_
 simp only [AP]
 refine wpSeq_wp rfl ?_
 unfold Oper.wp execOp
 go_simp
 refine CL.out.mono ?_
 rintro _ W5 ⟨v5, rfl, O5, b5⟩
 replace O5 := Lib.hid O5
 replace b5 := Lib.hid b5
 go_simp
 refine sas (v5) rfl rfl rfl ?_
 simp only [AP]
 refine wpSeq_nil ?_
 refine (by assumption : ∀ (a : Act) (w : World), _ → _) _ _ ?_
 clear CL f0
 obtain ⟨pre, hpre⟩ : ∃ pre, (223 + k) :: longB 1 to fr t = pre := ⟨_, rfl⟩
 rw [hpre] at O5
 have PL : pre.length ≤ 200 := by
  rw [← hpre]
  have lz : (zeroB 1).length ≤ 1 := by decide
  unfold longB
  simp only [List.length_append, List.length_cons, List.length_nil]
  have := LM.out
  omega
 have HB := Lib.hid (show headB 1 to fr pn k z = pre ++ beL pn k by
  rw [← hpre, ← ht]
  rfl)
 clear ht
 clear hpre LM K h1 h2
 have kk : IntKind.i64.wrap ((k : Int) - 1) = (k : Int) - 1 := by rw [IntKind.wrap_i64]; omega
 go_upto_region 8 with fail
 rename_i aK
 refine wp_region_seq ?_
 refine smv (.int .i64 (k : Int)) rfl rfl rfl ?_
 simp only [AP]
 refine svl (.int .i64 ((k : Int) - 1)) (.inl ⟨by rfl, fun w' _ => by go_simp⟩) ?_
 simp only [AP]
 refine sas (.int .i64 ((k : Int) - 1)) rfl rfl rfl ?_
 simp only [AP]
 refine wpSeq_nil ?_
 refine (by assumption : ∀ (a : Act) (w : World), _ → _) _ _ ?_
 go_upto_region 9 with fail
 go_loopw [10, 11] (fun v t wr => ∃ (vv : Value) (j : Nat), vv = v ∧ j ≤ k ∧ t = .int .i64 ((j : Int) - 1) ∧ OwL w3.heap.size wr v (pre ++ (beL pn k).take (k - j)) ∧ Below w3.heap.size w3 wr) (fun _ t _ => (intOf t + 1).toNat)
 case atStart => exact ⟨_, k, rfl, Nat.le_refl _, rfl, by rw [Nat.sub_self, List.take_zero, List.append_nil]; exact O5.out, b5.out⟩
 case round =>
  clear O5 b5
  obtain ⟨vv, j, rfl, hj, rfl, O5, b5⟩ := hrel
  by_cases j0 : j = 0
  ·
   subst j0
   rw [Nat.sub_zero, List.take_of_length_le (by rw [beL_length]; exact Nat.le_refl _), ← HB.out] at O5
   go_wp2
   refine bodyPost_ret (results_tmp2 rfl _ _ _) rfl ?_
   exact ⟨_, rfl, O5.mono b.out.size, b.out.trans (b5.mono b.out.size)⟩
  ·
   obtain ⟨i, rfl⟩ : ∃ i, j = i + 1 := ⟨j - 1, by omega⟩
   have jm : ((i + 1 : Nat) : Int) - 1 = (i : Int) := by omega
   rw [jm]
   have ET := beL_take pn k i (by omega)
   obtain ⟨q, hq⟩ : ∃ q, pn / 256 ^ i = q := ⟨_, rfl⟩
   obtain ⟨y2, hy2⟩ : ∃ y, q % 256 = y := ⟨_, rfl⟩
   rw [hq, hy2] at ET
   have EV := Lib.hid ET
   have Q := Lib.hid (show (i = 0 ∧ pn = q) ∨ (i = 1 ∧ pn / 256 = q) ∨ (i = 2 ∧ pn / 65536 = q) ∨ (i = 3 ∧ pn / 16777216 = q) by
    have : i = 0 ∨ i = 1 ∨ i = 2 ∨ i = 3 := by omega
    rcases this with rfl | rfl | rfl | rfl
    · exact Or.inl ⟨rfl, by rw [← hq]; simp⟩
    · exact Or.inr (Or.inl ⟨rfl, hq⟩)
    · exact Or.inr (Or.inr (Or.inl ⟨rfl, hq⟩))
    · exact Or.inr (Or.inr (Or.inr ⟨rfl, hq⟩)))
   have f2 : IntKind.u8.wrap (q : Int) = (y2 : Int) := by rw [IntKind.wrap_u8]; omega
   have i0 : (0 : Int) ≤ (i : Int) := by omega
   clear ET hq hy2 jm j0
   obtain ⟨v9, W9, hr9, O9, b9⟩ := append_new wr w3.heap.size 24 _ _ [y2] O5 (by rw [List.length_append, List.length_take, beL_length]; simp only [List.length_cons, List.length_nil]; omega) b5.size w3 b5
   rw [List.append_assoc, EV.out] at O9
   replace O9 := Lib.hid O9
   have ic : IntKind.i64.wrap ((i : Int) - 1) = (i : Int) - 1 := by rw [IntKind.wrap_i64]; omega
   go_upto_region 11 with fail
   rename_i aK
   refine wp_region_seq ?_
   refine smv (vv) rfl rfl rfl ?_
   simp only [AP]
   refine smv (.int .u64 (pn : Int)) rfl rfl rfl ?_
   simp only [AP]
   refine smv (.int .i64 (i : Int)) rfl rfl rfl ?_
   simp only [AP]
   refine svl (.int .i64 ((8 * i : Nat) : Int)) (.inl ⟨by rfl, fun w' _ => by (rcases Q.out with ⟨rfl, rfl⟩ | ⟨rfl, rfl⟩ | ⟨rfl, rfl⟩ | ⟨rfl, rfl⟩ <;> go_simp <;> try (first | omega | decide))⟩) ?_
   simp only [AP]
   refine svl (.int .u64 (q : Int)) (.inl ⟨by rfl, fun w' _ => by (rcases Q.out with ⟨rfl, rfl⟩ | ⟨rfl, rfl⟩ | ⟨rfl, rfl⟩ | ⟨rfl, rfl⟩ <;> go_simp <;> try (first | omega | decide))⟩) ?_
   simp only [AP]
   refine svl (.int .u8 (y2 : Int)) (.inl ⟨by rfl, fun w' _ => by go_simp⟩) ?_
   simp only [AP]
   refine wpSeq_wp rfl ?_
   unfold Oper.wp execOp
   go_simp
   refine wpSeq_wp rfl (wp_append_run _ _ _ _ rfl _ _ rfl rfl v9 W9 hr9 ?_)
   simp only [AP]
   refine sas (v9) rfl rfl rfl ?_
   simp only [AP]
   refine wpSeq_nil ?_
   refine (by assumption : ∀ (a : Act) (w : World), _ → _) _ _ ?_
   go_wp2
   exact ⟨⟨v9, i, rfl, by omega, rfl, O9.out, b9⟩, by simp only [intOf]; omega⟩
set_option maxHeartbeats 8000000 in
set_option maxRecDepth 100000 in
theorem put_two (to fr : List Nat) (pn k z : Nat) (m8 : to.length = 8) (n8 : fr.length = fr.length) (k4 : 1 ≤ k ∧ k ≤ 4) (z4 : z ≤ 1200) (vt vf : Value) (W : World) (_hp : pn < 18446744073709551616) (h1 : SB W vt to) (h2 : SB W vf fr) :
  Calls Tryd.prog 26 #[hdV 2 vt vf, .int .u64 (pn : Int), .int .i64 (k : Int), .int .i64 (z : Int)] W fun e w' => ∃ v, e = .returned (.tuple #[v, .int .i64 0]) ∧ OwL W.heap.size w' v (headB 2 to fr pn k z) ∧ Below W.heap.size W w' := by
 obtain ⟨p1, c1, rfl⟩ := h1.shape
 obtain ⟨p2, c2, rfl⟩ := h2.shape
 show Calls Tryd.prog 26 #[.agg #[.int .i64 2, .slice p1 to.length c1, .slice p2 fr.length c2], .int .u64 (pn : Int), .int .i64 (k : Int), .int .i64 (z : Int)] W _
 have LM := Lib.hid (And.intro m8 n8)
 rw [m8] at h1 ⊢
 obtain ⟨n, hn⟩ : ∃ n, fr.length = n := ⟨_, rfl⟩
 have HN := Lib.hid hn
 rw [hn] at h2 ⊢
 clear hn m8 n8
 go_enter Tryd.func26, Tryd.ntmps26
 go_upto_region 0 with fail
 rename_i aK
 refine wp_region_seq ?_
 refine wpSeq_wp rfl ?_
 unfold Oper.wp execOp
 go_simp
 refine sas (.slice none 0 0) rfl rfl rfl ?_
 simp only [AP]
 refine sas (.int .i64 0) rfl rfl rfl ?_
 simp only [AP]
 refine wpSeq_nil ?_
 refine aK _ _ ?_
 clear aK
 have K := Blk.new W 42 #[.int .i64 2, .slice p1 8 c1, .slice p2 n c2]
 have b := (Below.refl W.heap.size W).alloc (Nat.le_refl _) (.cells #[.int .i64 2, .slice p1 8 c1, .slice p2 n c2] 42)
 have zz : W.heap.size < (W.alloc (.cells #[.int .i64 2, .slice p1 8 c1, .slice p2 n c2] 42)).heap.size := by rw [size_alloc1]; omega
 generalize World.alloc W _ = W2 at *
 have x0 : W2.cell? ⟨W.heap.size, 0, none⟩ = some (.int .i64 2) := K.cell 0
 have x1 : W2.cell? ⟨W.heap.size, 1, none⟩ = some (.slice p1 8 c1) := K.cell 1
 have x2 : W2.cell? ⟨W.heap.size, 2, none⟩ = some (.slice p2 n c2) := K.cell 2
 replace h1 := Lib.hid (h1.below b)
 replace h2 := Lib.hid (h2.below b)
 replace K := Lib.hid K
 replace b := Lib.hid b
 clear x0 x1 x2
 have CN := Lib.hid (show Calls Tryd.prog 44 #[.agg #[.int .i64 2, .slice p1 8 c1, .slice p2 n c2]] W2 _ from named_c 2 to fr _ _ W2 h1.out h2.out)
 go_upto_region 1 with fail
 rename_i aK
 refine wp_region_seq ?_
 refine wpSeq_yield (S := fun w' => w' = W2) (load_hd rfl _ rfl W.heap.size rfl 2 (.slice p1 8 c1) (.slice p2 n c2) W2 K.out) rfl ?_
 simp only [AP]
 refine wpSeq_wp rfl ?_
 unfold Oper.wp execOp
 go_simp
 refine CN.out.mono ?_
 rintro _ w3 ⟨x, rfl, hx, b3⟩
 go_simp
 replace hx := Lib.hid hx
 replace K := Lib.hid (K.out.below' b3)
 replace h1 := Lib.hid (h1.out.below b3)
 replace h2 := Lib.hid (h2.out.below b3)
 replace zz : W.heap.size < w3.heap.size := by have := b3.size; omega
 replace b := Lib.hid (b.out.trans (b3.mono b.out.size))
 clear b3 CN
 obtain rfl : x = true := hx.out.2 (by have := LM.out; omega)
 clear hx
 refine svl (.bool false) (.inl ⟨by rfl, fun w' _ => by (go_simp)⟩) ?_
 simp only [AP]
 refine smv (.bool false) rfl rfl rfl ?_
 simp only [AP]
 refine smv (.int .i64 (k : Int)) rfl rfl rfl ?_
 simp only [AP]
 refine svl (.bool false) (.inl ⟨by rfl, fun w' _ => by (go_simp; try omega)⟩) ?_
 simp only [AP]
 refine wpSeq_yield (S := fun _ => True) (yieldsIf_pick rfl _ _ _ rfl false rfl (.bool false) rfl) trivial ?_
 simp only [AP]
 refine smv (.bool false) rfl rfl rfl ?_
 simp only [AP]
 refine smv (.int .i64 (k : Int)) rfl rfl rfl ?_
 simp only [AP]
 refine svl (.bool false) (.inl ⟨by rfl, fun w' _ => by (go_simp; try omega)⟩) ?_
 simp only [AP]
 refine wpSeq_yield (S := fun _ => True) (yieldsIf_pick rfl _ _ _ rfl false rfl (.bool false) rfl) trivial ?_
 simp only [AP]
 refine smv (.bool false) rfl rfl rfl ?_
 simp only [AP]
 refine smv (.int .i64 (z : Int)) rfl rfl rfl ?_
 simp only [AP]
 refine svl (.bool false) (.inl ⟨by rfl, fun w' _ => by (go_simp; try omega)⟩) ?_
 simp only [AP]
 refine wpSeq_yield (S := fun _ => True) (yieldsIf_pick rfl _ _ _ rfl false rfl (.bool false) rfl) trivial ?_
 simp only [AP]
 refine smv (.bool false) rfl rfl rfl ?_
 simp only [AP]
 refine smv (.int .i64 (z : Int)) rfl rfl rfl ?_
 simp only [AP]
 refine svl (.bool false) (.inl ⟨by rfl, fun w' _ => by (go_simp; try omega)⟩) ?_
 simp only [AP]
 refine wpSeq_yield (S := fun _ => True) (yieldsIf_pick rfl _ _ _ rfl false rfl (.bool false) rfl) trivial ?_
 simp only [AP]
 refine wpSeq_nil ?_
 refine (by assumption : ∀ (a : Act) (w : World), _ → _) _ _ ?_
 go_upto_region 3 with fail
 rename_i aK
 refine wp_region_seq ?_
 refine sas (.slice none 0 0) rfl rfl rfl ?_
 simp only [AP]
 refine wpSeq_nil ?_
 refine (by assumption : ∀ (a : Act) (w : World), _ → _) _ _ ?_
 have x0 : w3.cell? ⟨W.heap.size, 0, none⟩ = some (.int .i64 2) := K.out.cell 0
 go_upto_region 4 with fail
 rename_i aK
 refine wp_region_seq ?_
 refine svl (.pointer (some ⟨W.heap.size, 0, none⟩)) (.inl ⟨by rfl, fun w' _ => by go_simp⟩) ?_
 simp only [AP]
 refine wpSeq_yield (S := fun w' => w' = w3) (v := .int .i64 2) (Or.inl ⟨by rfl, fun w' hw' => by (rw [hw']; go_simp)⟩) rfl ?_
 simp only [AP]
 refine svl (.bool true) (.inl ⟨by rfl, fun w' _ => by go_simp⟩) ?_
 simp only [AP]
 refine wpSeq_nil ?_
 refine (by assumption : ∀ (a : Act) (w : World), _ → _) _ _ ?_
 clear x0
 obtain ⟨y, hy⟩ : ∃ y, 63 + k = y := ⟨_, rfl⟩
 have Q := Lib.hid (show (k = 1 ∧ y = 64) ∨ (k = 2 ∧ y = 65) ∨ (k = 3 ∧ y = 66) ∨ (k = 4 ∧ y = 67) by omega)
 have f0 : IntKind.i64.wrap ((k : Int) - 1) = (k : Int) - 1 := by rw [IntKind.wrap_i64]; omega
 have f1 : IntKind.u8.wrap (y : Int) = (y : Int) := by rw [IntKind.wrap_u8]; omega
 obtain ⟨v4, W4, hr4, O4, b4⟩ := append_new w3 w3.heap.size 24 (.slice none 0 0) [] [y] (OwL.nil _ _) (by simp only [List.length_cons, List.length_nil]; omega) (Nat.le_refl _) w3 (Below.refl _ _)
 obtain ⟨v5, W5, hr5, O5, b5⟩ := append_more w3.heap.size w3 W4 24 v4 (.slice p1 8 c1) _ to O4 (h1.out.below b4) (by simp only [List.length_append, List.length_cons, List.length_nil]; have := LM.out; omega) b4 b4.size
 have x1 : W4.cell? ⟨W.heap.size, 1, none⟩ = some (.slice p1 8 c1) := (K.out.below' b4).cell 1
 clear O4 b4
 replace O5 := Lib.hid O5
 replace b5 := Lib.hid b5
 go_upto_region 5 with fail
 rename_i aK
 refine wp_region_seq ?_
 refine smv (.slice none 0 0) rfl rfl rfl ?_
 simp only [AP]
 refine smv (.int .i64 (k : Int)) rfl rfl rfl ?_
 simp only [AP]
 refine svl (.int .i64 ((k : Int) - 1)) (.inl ⟨by rfl, fun w' _ => by go_simp⟩) ?_
 simp only [AP]
 refine svl (.int .i64 (y : Int)) (.inl ⟨by rfl, fun w' _ => by (rcases Q.out with ⟨rfl, rfl⟩ | ⟨rfl, rfl⟩ | ⟨rfl, rfl⟩ | ⟨rfl, rfl⟩ <;> go_simp <;> try (first | omega | decide))⟩) ?_
 simp only [AP]
 refine svl (.int .u8 (y : Int)) (.inl ⟨by rfl, fun w' _ => by go_simp⟩) ?_
 simp only [AP]
 refine wpSeq_wp rfl ?_
 unfold Oper.wp execOp
 go_simp
 refine wpSeq_wp rfl (wp_append_run _ _ _ _ rfl _ _ rfl rfl v4 W4 hr4 ?_)
 simp only [AP]
 refine sas (v4) rfl rfl rfl ?_
 simp only [AP]
 refine wpSeq_nil ?_
 refine (by assumption : ∀ (a : Act) (w : World), _ → _) _ _ ?_
 clear hr4 f0 f1 Q
 go_upto_region 6 with fail
 rename_i aK
 refine wp_region_seq ?_
 refine smv (v4) rfl rfl rfl ?_
 simp only [AP]
 refine svl (.pointer (some ⟨W.heap.size, 1, none⟩)) (.inl ⟨by rfl, fun w' _ => by go_simp⟩) ?_
 simp only [AP]
 refine wpSeq_yield (S := fun w' => w' = W4) (v := .slice p1 8 c1) (Or.inl ⟨by rfl, fun w' hw' => by (rw [hw']; go_simp)⟩) rfl ?_
 simp only [AP]
 refine wpSeq_wp rfl (wp_append_run _ _ _ _ rfl _ _ rfl rfl v5 W5 hr5 ?_)
 simp only [AP]
 refine sas (v5) rfl rfl rfl ?_
 simp only [AP]
 refine wpSeq_nil ?_
 refine (by assumption : ∀ (a : Act) (w : World), _ → _) _ _ ?_
 clear hr5 x1
 obtain ⟨pre, hpre⟩ : ∃ pre, ([] ++ [y]) ++ to = pre := ⟨_, rfl⟩
 rw [hpre] at O5
 have PL : pre.length ≤ 200 := by
  rw [← hpre]
  simp only [List.length_append, List.length_cons, List.length_nil]
  have := LM.out
  omega
 have HB := Lib.hid (show headB 2 to fr pn k z = pre ++ beL pn k by
  rw [← hpre, ← hy]
  rfl)
 clear hy
 clear hpre LM K h1 h2 HN
 have kk : IntKind.i64.wrap ((k : Int) - 1) = (k : Int) - 1 := by rw [IntKind.wrap_i64]; omega
 go_upto_region 8 with fail
 rename_i aK
 refine wp_region_seq ?_
 refine smv (.int .i64 (k : Int)) rfl rfl rfl ?_
 simp only [AP]
 refine svl (.int .i64 ((k : Int) - 1)) (.inl ⟨by rfl, fun w' _ => by go_simp⟩) ?_
 simp only [AP]
 refine sas (.int .i64 ((k : Int) - 1)) rfl rfl rfl ?_
 simp only [AP]
 refine wpSeq_nil ?_
 refine (by assumption : ∀ (a : Act) (w : World), _ → _) _ _ ?_
 go_upto_region 9 with fail
 go_loopw [10, 11] (fun v t wr => ∃ (vv : Value) (j : Nat), vv = v ∧ j ≤ k ∧ t = .int .i64 ((j : Int) - 1) ∧ OwL w3.heap.size wr v (pre ++ (beL pn k).take (k - j)) ∧ Below w3.heap.size w3 wr) (fun _ t _ => (intOf t + 1).toNat)
 case atStart => exact ⟨_, k, rfl, Nat.le_refl _, rfl, by rw [Nat.sub_self, List.take_zero, List.append_nil]; exact O5.out, b5.out⟩
 case round =>
  clear O5 b5
  obtain ⟨vv, j, rfl, hj, rfl, O5, b5⟩ := hrel
  by_cases j0 : j = 0
  ·
   subst j0
   rw [Nat.sub_zero, List.take_of_length_le (by rw [beL_length]; exact Nat.le_refl _), ← HB.out] at O5
   go_wp2
   refine bodyPost_ret (results_tmp2 rfl _ _ _) rfl ?_
   exact ⟨_, rfl, O5.mono b.out.size, b.out.trans (b5.mono b.out.size)⟩
  ·
   obtain ⟨i, rfl⟩ : ∃ i, j = i + 1 := ⟨j - 1, by omega⟩
   have jm : ((i + 1 : Nat) : Int) - 1 = (i : Int) := by omega
   rw [jm]
   have ET := beL_take pn k i (by omega)
   obtain ⟨q, hq⟩ : ∃ q, pn / 256 ^ i = q := ⟨_, rfl⟩
   obtain ⟨y2, hy2⟩ : ∃ y, q % 256 = y := ⟨_, rfl⟩
   rw [hq, hy2] at ET
   have EV := Lib.hid ET
   have Q := Lib.hid (show (i = 0 ∧ pn = q) ∨ (i = 1 ∧ pn / 256 = q) ∨ (i = 2 ∧ pn / 65536 = q) ∨ (i = 3 ∧ pn / 16777216 = q) by
    have : i = 0 ∨ i = 1 ∨ i = 2 ∨ i = 3 := by omega
    rcases this with rfl | rfl | rfl | rfl
    · exact Or.inl ⟨rfl, by rw [← hq]; simp⟩
    · exact Or.inr (Or.inl ⟨rfl, hq⟩)
    · exact Or.inr (Or.inr (Or.inl ⟨rfl, hq⟩))
    · exact Or.inr (Or.inr (Or.inr ⟨rfl, hq⟩)))
   have f2 : IntKind.u8.wrap (q : Int) = (y2 : Int) := by rw [IntKind.wrap_u8]; omega
   have i0 : (0 : Int) ≤ (i : Int) := by omega
   clear ET hq hy2 jm j0
   obtain ⟨v9, W9, hr9, O9, b9⟩ := append_new wr w3.heap.size 24 _ _ [y2] O5 (by rw [List.length_append, List.length_take, beL_length]; simp only [List.length_cons, List.length_nil]; omega) b5.size w3 b5
   rw [List.append_assoc, EV.out] at O9
   replace O9 := Lib.hid O9
   have ic : IntKind.i64.wrap ((i : Int) - 1) = (i : Int) - 1 := by rw [IntKind.wrap_i64]; omega
   go_upto_region 11 with fail
   rename_i aK
   refine wp_region_seq ?_
   refine smv (vv) rfl rfl rfl ?_
   simp only [AP]
   refine smv (.int .u64 (pn : Int)) rfl rfl rfl ?_
   simp only [AP]
   refine smv (.int .i64 (i : Int)) rfl rfl rfl ?_
   simp only [AP]
   refine svl (.int .i64 ((8 * i : Nat) : Int)) (.inl ⟨by rfl, fun w' _ => by (rcases Q.out with ⟨rfl, rfl⟩ | ⟨rfl, rfl⟩ | ⟨rfl, rfl⟩ | ⟨rfl, rfl⟩ <;> go_simp <;> try (first | omega | decide))⟩) ?_
   simp only [AP]
   refine svl (.int .u64 (q : Int)) (.inl ⟨by rfl, fun w' _ => by (rcases Q.out with ⟨rfl, rfl⟩ | ⟨rfl, rfl⟩ | ⟨rfl, rfl⟩ | ⟨rfl, rfl⟩ <;> go_simp <;> try (first | omega | decide))⟩) ?_
   simp only [AP]
   refine svl (.int .u8 (y2 : Int)) (.inl ⟨by rfl, fun w' _ => by go_simp⟩) ?_
   simp only [AP]
   refine wpSeq_wp rfl ?_
   unfold Oper.wp execOp
   go_simp
   refine wpSeq_wp rfl (wp_append_run _ _ _ _ rfl _ _ rfl rfl v9 W9 hr9 ?_)
   simp only [AP]
   refine sas (v9) rfl rfl rfl ?_
   simp only [AP]
   refine wpSeq_nil ?_
   refine (by assumption : ∀ (a : Act) (w : World), _ → _) _ _ ?_
   go_wp2
   exact ⟨⟨v9, i, rfl, by omega, rfl, O9.out, b9⟩, by simp only [intOf]; omega⟩
/-- The program's Put. -/
theorem put_c : PutHC := by
 intro sp to fr pn k z vt vf W ws wk wz bt bf ht hf hp h1 h2
 unfold PutPost putF
 by_cases hb : badH sp to.length fr.length k z
 ·
  rw [if_pos hb]
  exact put_bad sp to fr pn k z hb vt vf W h1 h2
 ·
  rw [if_neg hb]
  unfold badH at hb
  obtain ⟨k, rfl⟩ := Int.eq_ofNat_of_zero_le (show 0 ≤ k by omega)
  obtain ⟨z, rfl⟩ := Int.eq_ofNat_of_zero_le (show 0 ≤ z by omega)
  have hs : sp = 0 ∨ sp = 1 ∨ sp = 2 := by omega
  have m8 : to.length = 8 := by omega
  have k4 : 1 ≤ k ∧ k ≤ 4 := by omega
  have z4 : z ≤ 1200 := by omega
  rcases hs with rfl | rfl | rfl
  · exact put_zero to fr pn k z m8 (by omega) k4 z4 vt vf W hp h1 h2
  · exact put_one to fr pn k z m8 (by omega) k4 z4 vt vf W hp h1 h2
  · exact put_two to fr pn k z m8 rfl k4 z4 vt vf W hp h1 h2
end Go.Proofs.YtpihgljdbpnehaaDoor
