/- The reference's Head: in the third (printed by gen12/se.py). -/
import Derived.Test.YtfhiflakglhneaaSe
namespace Go.Proofs.Ytfhiflakglhneaa
open Go.RowKit

set_option maxHeartbeats 8000000 in
set_option maxRecDepth 100000 in
theorem rhead_two (to fr : List Nat) (pn k z : Nat) (m8 : to.length = 8) (_n8 : fr.length = fr.length) (k4 : 1 ≤ k ∧ k ≤ 4) (z4 : z ≤ 1200) (vt vf : Value) (W : World) (ht : to.length ≤ 100) (hf : fr.length ≤ 100) (_hp : pn < 18446744073709551616) (h1 : SB W vt to) (h2 : SB W vf fr) :
    Calls Try.prog 15 #[hdV 2 vt vf, .int .u64 (pn : Int), .int .i64 (k : Int), .int .i64 (z : Int)] W fun e w' => ∃ v, e = .returned (.tuple #[v, .int .i64 0]) ∧ OwL W.heap.size w' v (headB 2 to fr pn k z) ∧ Below W.heap.size W w' := by
  obtain ⟨p1, c1, rfl⟩ := h1.shape
  obtain ⟨p2, c2, rfl⟩ := h2.shape
  show Calls Try.prog 15 #[.agg #[.int .i64 2, .slice p1 to.length c1, .slice p2 fr.length c2], .int .u64 (pn : Int), .int .i64 (k : Int), .int .i64 (z : Int)] W _
  obtain ⟨m, hm⟩ : ∃ m, to.length = m := ⟨_, rfl⟩
  obtain ⟨n, hn⟩ : ∃ n, fr.length = n := ⟨_, rfl⟩
  rw [hm] at h1 ht m8
  rw [hn] at h2 hf
  rw [hm, hn]
  have MN := Lib.hid (And.intro hm hn)
  clear hm hn
  subst m8
  go_enter Try.func15, Try.ntmps15
  go_upto_region 0 with fail
  rename_i aK
  refine wp_region_seq ?_
  refine wpSeq_wp rfl ?_
  unfold Oper.wp execOp
  go_simp
  refine wpSeq_yield (S := fun _ => True) (yieldsIf_assign rfl _ rfl (.slice none 0 0) rfl) trivial ?_
  simp only [AP]
  refine wpSeq_yield (S := fun _ => True) (yieldsIf_assign rfl _ rfl (.int .i64 0) rfl) trivial ?_
  simp only [AP]
  refine wpSeq_nil ?_
  refine aK _ _ ?_
  clear aK
  have K := Blk.new W 31 #[.int .i64 2, .slice p1 8 c1, .slice p2 n c2]
  have b := (Below.refl W.heap.size W).alloc (Nat.le_refl _) (.cells #[.int .i64 2, .slice p1 8 c1, .slice p2 n c2] 31)
  have zz : W.heap.size < (W.alloc (.cells #[.int .i64 2, .slice p1 8 c1, .slice p2 n c2] 31)).heap.size := by rw [size_alloc1]; omega
  generalize World.alloc W _ = W2 at *
  have x0 : W2.cell? ⟨W.heap.size, 0, none⟩ = some (.int .i64 2) := K.cell 0
  have x1 : W2.cell? ⟨W.heap.size, 1, none⟩ = some (.slice p1 8 c1) := K.cell 1
  have x2 : W2.cell? ⟨W.heap.size, 2, none⟩ = some (.slice p2 n c2) := K.cell 2
  replace h1 := Lib.hid (h1.below b)
  replace h2 := Lib.hid (h2.below b)
  replace K := Lib.hid K
  replace b := Lib.hid b
  go_upto_region 1 with fail
  rename_i aK
  refine wp_region_seq ?_
  refine wpSeq_yield (S := fun _ => True) (v := .pointer (some ⟨W.heap.size, 0, none⟩)) (Or.inl ⟨by rfl, fun w' hw' => by go_simp⟩) trivial ?_
  simp only [AP]
  refine wpSeq_yield (S := fun w' => w' = W2) (v := .int .i64 2) (Or.inl ⟨by rfl, fun w' hw' => by (rw [hw']; go_simp)⟩) rfl ?_
  simp only [AP]
  refine wpSeq_yield (S := fun _ => True) (v := .bool false) (Or.inl ⟨by rfl, fun w' hw' => by (go_simp; try omega)⟩) trivial ?_
  simp only [AP]
  refine wpSeq_yield (S := fun _ => True) (yieldsIf_move rfl _ rfl (.bool false) rfl) trivial ?_
  simp only [AP]
  refine wpSeq_yield (S := fun _ => True) (v := .pointer (some ⟨W.heap.size, 0, none⟩)) (Or.inl ⟨by rfl, fun w' hw' => by go_simp⟩) trivial ?_
  simp only [AP]
  refine wpSeq_yield (S := fun w' => w' = W2) (v := .int .i64 2) (Or.inl ⟨by rfl, fun w' hw' => by (rw [hw']; go_simp)⟩) rfl ?_
  simp only [AP]
  refine wpSeq_yield (S := fun _ => True) (v := .bool false) (Or.inl ⟨by rfl, fun w' hw' => by (go_simp; try omega)⟩) trivial ?_
  simp only [AP]
  refine wpSeq_yield (S := fun _ => True) (yieldsIf_pick rfl _ _ _ rfl false rfl (.bool false) rfl) trivial ?_
  simp only [AP]
  refine wpSeq_yield (S := fun _ => True) (yieldsIf_move rfl _ rfl (.bool false) rfl) trivial ?_
  simp only [AP]
  refine wpSeq_yield (S := fun _ => True) (v := .pointer (some ⟨W.heap.size, 1, none⟩)) (Or.inl ⟨by rfl, fun w' hw' => by go_simp⟩) trivial ?_
  simp only [AP]
  refine wpSeq_yield (S := fun w' => w' = W2) (v := .slice p1 8 c1) (Or.inl ⟨by rfl, fun w' hw' => by (rw [hw']; go_simp)⟩) rfl ?_
  simp only [AP]
  refine wpSeq_yield (S := fun _ => True) (v := .int .i64 8) (Or.inl ⟨by rfl, fun w' hw' => by go_simp⟩) trivial ?_
  simp only [AP]
  refine wpSeq_yield (S := fun _ => True) (v := .bool false) (Or.inl ⟨by rfl, fun w' hw' => by (go_simp; try omega)⟩) trivial ?_
  simp only [AP]
  refine wpSeq_yield (S := fun _ => True) (yieldsIf_pick rfl _ _ _ rfl false rfl (.bool false) rfl) trivial ?_
  simp only [AP]
  refine wpSeq_yield (S := fun _ => True) (yieldsIf_move rfl _ rfl (.bool false) rfl) trivial ?_
  simp only [AP]
  refine wpSeq_yield (S := fun _ => True) (v := .pointer (some ⟨W.heap.size, 0, none⟩)) (Or.inl ⟨by rfl, fun w' hw' => by go_simp⟩) trivial ?_
  simp only [AP]
  refine wpSeq_yield (S := fun w' => w' = W2) (v := .int .i64 2) (Or.inl ⟨by rfl, fun w' hw' => by (rw [hw']; go_simp)⟩) rfl ?_
  simp only [AP]
  refine wpSeq_yield (S := fun _ => True) (v := .bool false) (Or.inl ⟨by rfl, fun w' hw' => by (go_simp; try omega)⟩) trivial ?_
  simp only [AP]
  refine wpSeq_yield (S := fun _ => True) (yieldsIf_move rfl _ rfl (.bool false) rfl) trivial ?_
  simp only [AP]
  refine wpSeq_yield (S := fun _ => True) (yieldsIf_off rfl) trivial ?_
  simp only [AP]
  refine wpSeq_yield (S := fun _ => True) (yieldsIf_off rfl) trivial ?_
  simp only [AP]
  refine wpSeq_yield (S := fun _ => True) (yieldsIf_off rfl) trivial ?_
  simp only [AP]
  refine wpSeq_yield (S := fun _ => True) (yieldsIf_off rfl) trivial ?_
  simp only [AP]
  refine wpSeq_yield (S := fun _ => True) (yieldsIf_pick rfl _ _ _ rfl false rfl (.bool false) rfl) trivial ?_
  simp only [AP]
  refine wpSeq_yield (S := fun _ => True) (yieldsIf_pick rfl _ _ _ rfl false rfl (.bool false) rfl) trivial ?_
  simp only [AP]
  refine wpSeq_yield (S := fun _ => True) (yieldsIf_move rfl _ rfl (.bool false) rfl) trivial ?_
  simp only [AP]
  refine wpSeq_yield (S := fun _ => True) (yieldsIf_move rfl _ rfl (.int .i64 (k : Int)) rfl) trivial ?_
  simp only [AP]
  refine wpSeq_yield (S := fun _ => True) (v := .bool false) (Or.inl ⟨by rfl, fun w' hw' => by (go_simp; try omega)⟩) trivial ?_
  simp only [AP]
  refine wpSeq_yield (S := fun _ => True) (yieldsIf_pick rfl _ _ _ rfl false rfl (.bool false) rfl) trivial ?_
  simp only [AP]
  refine wpSeq_yield (S := fun _ => True) (yieldsIf_move rfl _ rfl (.bool false) rfl) trivial ?_
  simp only [AP]
  refine wpSeq_yield (S := fun _ => True) (yieldsIf_move rfl _ rfl (.int .i64 (k : Int)) rfl) trivial ?_
  simp only [AP]
  refine wpSeq_yield (S := fun _ => True) (v := .bool false) (Or.inl ⟨by rfl, fun w' hw' => by (go_simp; try omega)⟩) trivial ?_
  simp only [AP]
  refine wpSeq_yield (S := fun _ => True) (yieldsIf_pick rfl _ _ _ rfl false rfl (.bool false) rfl) trivial ?_
  simp only [AP]
  refine wpSeq_yield (S := fun _ => True) (yieldsIf_move rfl _ rfl (.bool false) rfl) trivial ?_
  simp only [AP]
  refine wpSeq_yield (S := fun _ => True) (yieldsIf_move rfl _ rfl (.int .i64 (z : Int)) rfl) trivial ?_
  simp only [AP]
  refine wpSeq_yield (S := fun _ => True) (v := .bool false) (Or.inl ⟨by rfl, fun w' hw' => by (go_simp; try omega)⟩) trivial ?_
  simp only [AP]
  refine wpSeq_yield (S := fun _ => True) (yieldsIf_pick rfl _ _ _ rfl false rfl (.bool false) rfl) trivial ?_
  simp only [AP]
  refine wpSeq_yield (S := fun _ => True) (yieldsIf_move rfl _ rfl (.bool false) rfl) trivial ?_
  simp only [AP]
  refine wpSeq_yield (S := fun _ => True) (yieldsIf_move rfl _ rfl (.int .i64 (z : Int)) rfl) trivial ?_
  simp only [AP]
  refine wpSeq_yield (S := fun _ => True) (v := .bool false) (Or.inl ⟨by rfl, fun w' hw' => by (go_simp; try omega)⟩) trivial ?_
  simp only [AP]
  refine wpSeq_yield (S := fun _ => True) (yieldsIf_pick rfl _ _ _ rfl false rfl (.bool false) rfl) trivial ?_
  simp only [AP]
  refine wpSeq_nil ?_
  refine (by assumption : ∀ (a : Act) (w : World), _ → _) _ _ ?_
  go_upto_region 3 with fail
  rename_i aK
  refine wp_region_seq ?_
  refine wpSeq_yield (S := fun _ => True) (yieldsIf_assign rfl _ rfl (.slice none 0 0) rfl) trivial ?_
  simp only [AP]
  refine wpSeq_nil ?_
  refine (by assumption : ∀ (a : Act) (w : World), _ → _) _ _ ?_
  go_upto_region 4 with fail
  rename_i aK
  refine wp_region_seq ?_
  refine wpSeq_yield (S := fun _ => True) (v := .pointer (some ⟨W.heap.size, 0, none⟩)) (Or.inl ⟨by rfl, fun w' hw' => by go_simp⟩) trivial ?_
  simp only [AP]
  refine wpSeq_yield (S := fun w' => w' = W2) (v := .int .i64 2) (Or.inl ⟨by rfl, fun w' hw' => by (rw [hw']; go_simp)⟩) rfl ?_
  simp only [AP]
  refine wpSeq_yield (S := fun _ => True) (v := .bool true) (Or.inl ⟨by rfl, fun w' hw' => by go_simp⟩) trivial ?_
  simp only [AP]
  refine wpSeq_nil ?_
  refine (by assumption : ∀ (a : Act) (w : World), _ → _) _ _ ?_
  obtain ⟨y, hy⟩ : ∃ y, 63 + k = y := ⟨_, rfl⟩
  have f0 : IntKind.i64.wrap (63 + (k : Int)) = (y : Int) := by rw [IntKind.wrap_i64]; omega
  have f1 : IntKind.u8.wrap (y : Int) = (y : Int) := by rw [IntKind.wrap_u8]; omega
  have LM := Lib.hid (show to.length = 8 ∧ fr.length ≤ 100 by have := MN.out; omega)
  go_upto_region 5 with fail
  rename_i aK
  refine wp_region_seq ?_
  refine wpSeq_yield (S := fun _ => True) (yieldsIf_move rfl _ rfl (.int .i64 (k : Int)) rfl) trivial ?_
  simp only [AP]
  refine wpSeq_yield (S := fun _ => True) (v := .int .i64 (y : Int)) (Or.inl ⟨by rfl, fun w' hw' => by go_simp⟩) trivial ?_
  simp only [AP]
  refine wpSeq_yield (S := fun _ => True) (v := .int .u8 (y : Int)) (Or.inl ⟨by rfl, fun w' hw' => by go_simp⟩) trivial ?_
  simp only [AP]
  refine wpSeq_wp rfl ?_
  unfold Oper.wp execOp
  go_simp
  have O3 := OwL.built W2.heap.size W2 [y] (Nat.le_refl _) (by simp [maxLen])
  have b3 := (Below.refl W2.heap.size W2).alloc (Nat.le_refl _) (.cells (Iv .u8 (NI [y])) 5)
  replace O3 : OwL W2.heap.size (W2.alloc (.cells #[.int .u8 (y : Int)] 5)) (.slice (some ⟨W2.heap.size, 0, none⟩) 1 1) [y] := O3
  replace b3 : Below W2.heap.size W2 (W2.alloc (.cells #[.int .u8 (y : Int)] 5)) := b3
  generalize World.alloc W2 _ = W3 at *
  have x3 : W3.cell? ⟨W.heap.size, 1, none⟩ = some (.slice p1 8 c1) := (K.out.below' b3).cell 1
  obtain ⟨v4, W4, hr, O4, b4⟩ := append_more W2.heap.size W2 W3 29 _ _ _ _ O3 (h1.out.below b3) (by simp only [List.length_cons, List.length_nil]; have := LM.out.1; omega) b3 b3.size
  replace O4 := Lib.hid O4
  replace b4 := Lib.hid b4
  clear x0 x1 x2 O3 b3
  refine wpSeq_yield (S := fun _ => True) (v := .pointer (some ⟨W.heap.size, 1, none⟩)) (Or.inl ⟨by rfl, fun w' hw' => by go_simp⟩) trivial ?_
  simp only [AP]
  refine wpSeq_yield (S := fun w' => w' = W3) (v := .slice p1 8 c1) (Or.inl ⟨by rfl, fun w' hw' => by (rw [hw']; go_simp)⟩) rfl ?_
  simp only [AP]
  refine wpSeq_wp rfl (wp_append_run _ _ _ _ rfl _ _ rfl rfl v4 W4 hr ?_)
  simp only [AP]
  refine wpSeq_yield (S := fun _ => True) (yieldsIf_assign rfl _ rfl (v4) rfl) trivial ?_
  simp only [AP]
  refine wpSeq_nil ?_
  refine (by assumption : ∀ (a : Act) (w : World), _ → _) _ _ ?_
  clear x3 hr f0 f1
  obtain ⟨pre, hpre⟩ : ∃ pre, [y] ++ to = pre := ⟨_, rfl⟩
  rw [hpre] at O4
  have PL : pre.length ≤ 200 := by
    rw [← hpre]
    simp only [List.length_append, List.length_cons, List.length_nil]
    have := LM.out
    omega
  have HB := Lib.hid (show headB 2 to fr pn k z = pre ++ beL pn k by
    rw [← hpre, ← hy]
    rfl)
  clear hpre hy LM K h1 h2 MN
  have kk : IntKind.i64.wrap ((k : Int) - 1) = (k : Int) - 1 := by rw [IntKind.wrap_i64]; omega
  go_upto_region 11 with fail
  rename_i aK
  refine wp_region_seq ?_
  refine wpSeq_yield (S := fun _ => True) (yieldsIf_move rfl _ rfl (.int .i64 (k : Int)) rfl) trivial ?_
  simp only [AP]
  refine wpSeq_yield (S := fun _ => True) (v := .int .i64 ((k : Int) - 1)) (Or.inl ⟨by rfl, fun w' hw' => by go_simp⟩) trivial ?_
  simp only [AP]
  refine wpSeq_yield (S := fun _ => True) (yieldsIf_assign rfl _ rfl (.int .i64 ((k : Int) - 1)) rfl) trivial ?_
  simp only [AP]
  refine wpSeq_nil ?_
  refine (by assumption : ∀ (a : Act) (w : World), _ → _) _ _ ?_
  go_upto_region 12 with fail
  go_loopw [10, 11] (fun v t wr => ∃ (vv : Value) (j : Nat), vv = v ∧ j ≤ k ∧ t = .int .i64 ((j : Int) - 1) ∧ OwL W2.heap.size wr v (pre ++ (beL pn k).take (k - j)) ∧ Below W2.heap.size W2 wr) (fun _ t _ => (intOf t + 1).toNat)
  case atStart => exact ⟨_, k, rfl, Nat.le_refl _, rfl, by rw [Nat.sub_self, List.take_zero, List.append_nil]; exact O4.out, b4.out⟩
  case round =>
    clear O4 b4
    obtain ⟨vv, j, rfl, hj, rfl, O5, b5⟩ := hrel
    by_cases j0 : j = 0
    · subst j0
      rw [Nat.sub_zero, List.take_of_length_le (by rw [beL_length]; exact Nat.le_refl _), ← HB.out] at O5
      go_wp2
      refine bodyPost_ret (results_tmp2 rfl _ _ _) rfl ?_
      exact ⟨_, rfl, O5.mono b.out.size, b.out.trans (b5.mono b.out.size)⟩
    · obtain ⟨i, rfl⟩ : ∃ i, j = i + 1 := ⟨j - 1, by omega⟩
      have jm : ((i + 1 : Nat) : Int) - 1 = (i : Int) := by omega
      rw [jm]
      have ET := beL_take pn k i (by omega)
      obtain ⟨q, hq⟩ : ∃ q, pn / 256 ^ i = q := ⟨_, rfl⟩
      obtain ⟨y2, hy2⟩ : ∃ y, q % 256 = y := ⟨_, rfl⟩
      rw [hq, hy2] at ET
      have EV := Lib.hid ET
      have Q := Lib.hid (show (i = 0 ∧ pn = q) ∨ (i = 1 ∧ pn / 256 = q) ∨ (i = 2 ∧ pn / 65536 = q) ∨ (i = 3 ∧ pn / 16777216 = q) by
        have : i = 0 ∨ i = 1 ∨ i = 2 ∨ i = 3 := by omega
        rcases this with rfl | rfl | rfl | rfl
        · exact Or.inl ⟨rfl, by rw [← hq]; simp⟩
        · exact Or.inr (Or.inl ⟨rfl, hq⟩)
        · exact Or.inr (Or.inr (Or.inl ⟨rfl, hq⟩))
        · exact Or.inr (Or.inr (Or.inr ⟨rfl, hq⟩)))
      have f2 : IntKind.u8.wrap (q : Int) = (y2 : Int) := by rw [IntKind.wrap_u8]; omega
      have i0 : (0 : Int) ≤ (i : Int) := by omega
      clear ET hq hy2 jm j0
      obtain ⟨v9, W9, hr9, O9, b9⟩ := append_new wr W2.heap.size 29 _ _ [y2] O5 (by rw [List.length_append, List.length_take, beL_length]; simp only [List.length_cons, List.length_nil]; omega) b5.size W2 b5
      rw [List.append_assoc, EV.out] at O9
      replace O9 := Lib.hid O9
      have ic : IntKind.i64.wrap ((i : Int) - 1) = (i : Int) - 1 := by rw [IntKind.wrap_i64]; omega
      go_upto_region 14 with fail
      rename_i aK
      refine wp_region_seq ?_
      refine wpSeq_yield (S := fun _ => True) (yieldsIf_move rfl _ rfl (vv) rfl) trivial ?_
      simp only [AP]
      refine wpSeq_yield (S := fun _ => True) (yieldsIf_move rfl _ rfl (.int .u64 (pn : Int)) rfl) trivial ?_
      simp only [AP]
      refine wpSeq_yield (S := fun _ => True) (yieldsIf_move rfl _ rfl (.int .i64 (i : Int)) rfl) trivial ?_
      simp only [AP]
      refine wpSeq_yield (S := fun _ => True) (v := .int .i64 ((8 * i : Nat) : Int)) (Or.inl ⟨by rfl, fun w' hw' => by (rcases Q.out with ⟨rfl, rfl⟩ | ⟨rfl, rfl⟩ | ⟨rfl, rfl⟩ | ⟨rfl, rfl⟩ <;> go_simp <;> try (first | omega | decide))⟩) trivial ?_
      simp only [AP]
      refine wpSeq_yield (S := fun _ => True) (v := .int .u64 (q : Int)) (Or.inl ⟨by rfl, fun w' hw' => by (rcases Q.out with ⟨rfl, rfl⟩ | ⟨rfl, rfl⟩ | ⟨rfl, rfl⟩ | ⟨rfl, rfl⟩ <;> go_simp <;> try (first | omega | decide))⟩) trivial ?_
      simp only [AP]
      refine wpSeq_yield (S := fun _ => True) (v := .int .u8 (y2 : Int)) (Or.inl ⟨by rfl, fun w' hw' => by go_simp⟩) trivial ?_
      simp only [AP]
      refine wpSeq_wp rfl ?_
      unfold Oper.wp execOp
      go_simp
      refine wpSeq_wp rfl (wp_append_run _ _ _ _ rfl _ _ rfl rfl v9 W9 hr9 ?_)
      simp only [AP]
      refine wpSeq_yield (S := fun _ => True) (yieldsIf_assign rfl _ rfl (v9) rfl) trivial ?_
      simp only [AP]
      refine wpSeq_nil ?_
      refine (by assumption : ∀ (a : Act) (w : World), _ → _) _ _ ?_
      go_wp2
      exact ⟨⟨v9, i, rfl, by omega, rfl, O9.out, b9⟩, by simp only [intOf]; omega⟩
end Go.Proofs.Ytfhiflakglhneaa
