/- The reference's Head: what is refused (printed by gen12/se.py). -/
import Derived.Test.YtpihgljdbpnehaaDoorLq0Nb
namespace Go.Proofs.YtpihgljdbpnehaaDoor
open Go.RowKit
set_option maxHeartbeats 8000000 in
set_option maxRecDepth 100000 in
theorem rhead_bad (sp : Int) (to fr : List Nat) (pn : Nat) (k z : Int) (hb : badH sp to.length fr.length k z) (vt vf : Value) (W : World) (_ht : to.length ≤ 100) (_hf : fr.length ≤ 100) (_hp : pn < 18446744073709551616) (h1 : SB W vt to) (h2 : SB W vf fr) :
    Calls Tryd.prog 33 #[hdV sp vt vf, .int .u64 (pn : Int), .int .i64 k, .int .i64 z] W fun e w' => ∃ v, e = .returned (.tuple #[v, .int .i64 2]) ∧ OwL W.heap.size w' v [] ∧ Below W.heap.size W w' := by
  obtain ⟨p1, c1, rfl⟩ := h1.shape
  obtain ⟨p2, c2, rfl⟩ := h2.shape
  show Calls Tryd.prog 33 #[.agg #[.int .i64 sp, .slice p1 to.length c1, .slice p2 fr.length c2], .int .u64 (pn : Int), .int .i64 k, .int .i64 z] W _
  obtain ⟨m, hm⟩ : ∃ m, to.length = m := ⟨_, rfl⟩
  obtain ⟨n, hn⟩ : ∃ n, fr.length = n := ⟨_, rfl⟩
  rw [hm] at h1 hb
  rw [hn] at h2 hb
  rw [hm, hn]
  have MN := Lib.hid (And.intro hm hn)
  clear hm hn
  go_enter Tryd.func33, Tryd.ntmps33
  go_upto_region 0 with fail
  rename_i aK
  refine wp_region_seq ?_
  refine wpSeq_wp rfl ?_
  unfold Oper.wp execOp
  go_simp
  refine wpSeq_yield (S := fun _ => True) (yieldsIf_assign rfl _ rfl (.slice none 0 0) rfl) trivial ?_
  simp only [AP]
  refine wpSeq_yield (S := fun _ => True) (yieldsIf_assign rfl _ rfl (.int .i64 0) rfl) trivial ?_
  simp only [AP]
  refine wpSeq_nil ?_
  refine aK _ _ ?_
  clear aK
  have K := Blk.new W 42 #[.int .i64 sp, .slice p1 m c1, .slice p2 n c2]
  have b := (Below.refl W.heap.size W).alloc (Nat.le_refl _) (.cells #[.int .i64 sp, .slice p1 m c1, .slice p2 n c2] 42)
  have zz : W.heap.size < (W.alloc (.cells #[.int .i64 sp, .slice p1 m c1, .slice p2 n c2] 42)).heap.size := by rw [size_alloc1]; omega
  generalize World.alloc W _ = W2 at *
  have x0 : W2.cell? ⟨W.heap.size, 0, none⟩ = some (.int .i64 sp) := K.cell 0
  have x1 : W2.cell? ⟨W.heap.size, 1, none⟩ = some (.slice p1 m c1) := K.cell 1
  have x2 : W2.cell? ⟨W.heap.size, 2, none⟩ = some (.slice p2 n c2) := K.cell 2
  replace h1 := Lib.hid (h1.below b)
  replace h2 := Lib.hid (h2.below b)
  replace K := Lib.hid K
  replace b := Lib.hid b
  unfold badH at hb
  clear MN h1 h2 K
  by_cases q1 : sp < 0
  · skip
    clear hb
    go_upto_region 1 with fail
    rename_i aK
    refine wp_region_seq ?_
    refine wpSeq_yield (S := fun _ => True) (v := .pointer (some ⟨W.heap.size, 0, none⟩)) (Or.inl ⟨by rfl, fun w' hw' => by go_simp⟩) trivial ?_
    simp only [AP]
    refine wpSeq_yield (S := fun w' => w' = W2) (v := .int .i64 sp) (Or.inl ⟨by rfl, fun w' hw' => by (rw [hw']; go_simp)⟩) rfl ?_
    simp only [AP]
    refine wpSeq_yield (S := fun _ => True) (v := .bool true) (Or.inl ⟨by rfl, fun w' hw' => by (go_simp; try omega)⟩) trivial ?_
    simp only [AP]
    refine wpSeq_yield (S := fun _ => True) (yieldsIf_move rfl _ rfl (.bool true) rfl) trivial ?_
    simp only [AP]
    refine wpSeq_yield (S := fun _ => True) (yieldsIf_off rfl) trivial ?_
    simp only [AP]
    refine wpSeq_yield (S := fun _ => True) (yieldsIf_off rfl) trivial ?_
    simp only [AP]
    refine wpSeq_yield (S := fun _ => True) (yieldsIf_off rfl) trivial ?_
    simp only [AP]
    refine wpSeq_yield (S := fun _ => True) (yieldsIf_pick rfl _ _ _ rfl true rfl (.bool true) rfl) trivial ?_
    simp only [AP]
    refine wpSeq_yield (S := fun _ => True) (yieldsIf_move rfl _ rfl (.bool true) rfl) trivial ?_
    simp only [AP]
    refine wpSeq_yield (S := fun _ => True) (yieldsIf_off rfl) trivial ?_
    simp only [AP]
    refine wpSeq_yield (S := fun _ => True) (yieldsIf_off rfl) trivial ?_
    simp only [AP]
    refine wpSeq_yield (S := fun _ => True) (yieldsIf_off rfl) trivial ?_
    simp only [AP]
    refine wpSeq_yield (S := fun _ => True) (yieldsIf_off rfl) trivial ?_
    simp only [AP]
    refine wpSeq_yield (S := fun _ => True) (yieldsIf_pick rfl _ _ _ rfl true rfl (.bool true) rfl) trivial ?_
    simp only [AP]
    refine wpSeq_yield (S := fun _ => True) (yieldsIf_move rfl _ rfl (.bool true) rfl) trivial ?_
    simp only [AP]
    refine wpSeq_yield (S := fun _ => True) (yieldsIf_off rfl) trivial ?_
    simp only [AP]
    refine wpSeq_yield (S := fun _ => True) (yieldsIf_off rfl) trivial ?_
    simp only [AP]
    refine wpSeq_yield (S := fun _ => True) (yieldsIf_off rfl) trivial ?_
    simp only [AP]
    refine wpSeq_yield (S := fun _ => True) (yieldsIf_off rfl) trivial ?_
    simp only [AP]
    refine wpSeq_yield (S := fun _ => True) (yieldsIf_off rfl) trivial ?_
    simp only [AP]
    refine wpSeq_yield (S := fun _ => True) (yieldsIf_off rfl) trivial ?_
    simp only [AP]
    refine wpSeq_yield (S := fun _ => True) (yieldsIf_off rfl) trivial ?_
    simp only [AP]
    refine wpSeq_yield (S := fun _ => True) (yieldsIf_off rfl) trivial ?_
    simp only [AP]
    refine wpSeq_yield (S := fun _ => True) (yieldsIf_off rfl) trivial ?_
    simp only [AP]
    refine wpSeq_yield (S := fun _ => True) (yieldsIf_pick rfl _ _ _ rfl true rfl (.bool true) rfl) trivial ?_
    simp only [AP]
    refine wpSeq_yield (S := fun _ => True) (yieldsIf_move rfl _ rfl (.bool true) rfl) trivial ?_
    simp only [AP]
    refine wpSeq_yield (S := fun _ => True) (yieldsIf_off rfl) trivial ?_
    simp only [AP]
    refine wpSeq_yield (S := fun _ => True) (yieldsIf_off rfl) trivial ?_
    simp only [AP]
    refine wpSeq_yield (S := fun _ => True) (yieldsIf_pick rfl _ _ _ rfl true rfl (.bool true) rfl) trivial ?_
    simp only [AP]
    refine wpSeq_yield (S := fun _ => True) (yieldsIf_move rfl _ rfl (.bool true) rfl) trivial ?_
    simp only [AP]
    refine wpSeq_yield (S := fun _ => True) (yieldsIf_off rfl) trivial ?_
    simp only [AP]
    refine wpSeq_yield (S := fun _ => True) (yieldsIf_off rfl) trivial ?_
    simp only [AP]
    refine wpSeq_yield (S := fun _ => True) (yieldsIf_pick rfl _ _ _ rfl true rfl (.bool true) rfl) trivial ?_
    simp only [AP]
    refine wpSeq_yield (S := fun _ => True) (yieldsIf_move rfl _ rfl (.bool true) rfl) trivial ?_
    simp only [AP]
    refine wpSeq_yield (S := fun _ => True) (yieldsIf_off rfl) trivial ?_
    simp only [AP]
    refine wpSeq_yield (S := fun _ => True) (yieldsIf_off rfl) trivial ?_
    simp only [AP]
    refine wpSeq_yield (S := fun _ => True) (yieldsIf_pick rfl _ _ _ rfl true rfl (.bool true) rfl) trivial ?_
    simp only [AP]
    refine wpSeq_yield (S := fun _ => True) (yieldsIf_move rfl _ rfl (.bool true) rfl) trivial ?_
    simp only [AP]
    refine wpSeq_yield (S := fun _ => True) (yieldsIf_off rfl) trivial ?_
    simp only [AP]
    refine wpSeq_yield (S := fun _ => True) (yieldsIf_off rfl) trivial ?_
    simp only [AP]
    refine wpSeq_yield (S := fun _ => True) (yieldsIf_pick rfl _ _ _ rfl true rfl (.bool true) rfl) trivial ?_
    simp only [AP]
    refine wpSeq_nil ?_
    refine aK _ _ ?_
    clear aK
    go_upto_region 2 with fail
    rename_i aK
    refine wp_region_seq ?_
    refine wpSeq_yield (S := fun _ => True) (yieldsIf_assign rfl _ rfl (.slice none 0 0) rfl) trivial ?_
    simp only [AP]
    refine wpSeq_yield (S := fun _ => True) (yieldsIf_assign rfl _ rfl (.int .i64 2) rfl) trivial ?_
    simp only [AP]
    refine wpSeq_nil ?_
    refine aK _ _ ?_
    clear aK
    go_wp2
    refine bodyPost_ret (results_tmp2 rfl _ _ _) rfl ?_
    exact ⟨_, rfl, OwL.nil _ _, b.out⟩
  by_cases q2 : 2 < sp
  · skip
    clear hb
    go_upto_region 1 with fail
    rename_i aK
    refine wp_region_seq ?_
    refine wpSeq_yield (S := fun _ => True) (v := .pointer (some ⟨W.heap.size, 0, none⟩)) (Or.inl ⟨by rfl, fun w' hw' => by go_simp⟩) trivial ?_
    simp only [AP]
    refine wpSeq_yield (S := fun w' => w' = W2) (v := .int .i64 sp) (Or.inl ⟨by rfl, fun w' hw' => by (rw [hw']; go_simp)⟩) rfl ?_
    simp only [AP]
    refine wpSeq_yield (S := fun _ => True) (v := .bool false) (Or.inl ⟨by rfl, fun w' hw' => by (go_simp; try omega)⟩) trivial ?_
    simp only [AP]
    refine wpSeq_yield (S := fun _ => True) (yieldsIf_move rfl _ rfl (.bool false) rfl) trivial ?_
    simp only [AP]
    refine wpSeq_yield (S := fun _ => True) (v := .pointer (some ⟨W.heap.size, 0, none⟩)) (Or.inl ⟨by rfl, fun w' hw' => by go_simp⟩) trivial ?_
    simp only [AP]
    refine wpSeq_yield (S := fun w' => w' = W2) (v := .int .i64 sp) (Or.inl ⟨by rfl, fun w' hw' => by (rw [hw']; go_simp)⟩) rfl ?_
    simp only [AP]
    refine wpSeq_yield (S := fun _ => True) (v := .bool true) (Or.inl ⟨by rfl, fun w' hw' => by (go_simp; try omega)⟩) trivial ?_
    simp only [AP]
    refine wpSeq_yield (S := fun _ => True) (yieldsIf_pick rfl _ _ _ rfl false rfl (.bool true) rfl) trivial ?_
    simp only [AP]
    refine wpSeq_yield (S := fun _ => True) (yieldsIf_move rfl _ rfl (.bool true) rfl) trivial ?_
    simp only [AP]
    refine wpSeq_yield (S := fun _ => True) (yieldsIf_off rfl) trivial ?_
    simp only [AP]
    refine wpSeq_yield (S := fun _ => True) (yieldsIf_off rfl) trivial ?_
    simp only [AP]
    refine wpSeq_yield (S := fun _ => True) (yieldsIf_off rfl) trivial ?_
    simp only [AP]
    refine wpSeq_yield (S := fun _ => True) (yieldsIf_off rfl) trivial ?_
    simp only [AP]
    refine wpSeq_yield (S := fun _ => True) (yieldsIf_pick rfl _ _ _ rfl true rfl (.bool true) rfl) trivial ?_
    simp only [AP]
    refine wpSeq_yield (S := fun _ => True) (yieldsIf_move rfl _ rfl (.bool true) rfl) trivial ?_
    simp only [AP]
    refine wpSeq_yield (S := fun _ => True) (yieldsIf_off rfl) trivial ?_
    simp only [AP]
    refine wpSeq_yield (S := fun _ => True) (yieldsIf_off rfl) trivial ?_
    simp only [AP]
    refine wpSeq_yield (S := fun _ => True) (yieldsIf_off rfl) trivial ?_
    simp only [AP]
    refine wpSeq_yield (S := fun _ => True) (yieldsIf_off rfl) trivial ?_
    simp only [AP]
    refine wpSeq_yield (S := fun _ => True) (yieldsIf_off rfl) trivial ?_
    simp only [AP]
    refine wpSeq_yield (S := fun _ => True) (yieldsIf_off rfl) trivial ?_
    simp only [AP]
    refine wpSeq_yield (S := fun _ => True) (yieldsIf_off rfl) trivial ?_
    simp only [AP]
    refine wpSeq_yield (S := fun _ => True) (yieldsIf_off rfl) trivial ?_
    simp only [AP]
    refine wpSeq_yield (S := fun _ => True) (yieldsIf_off rfl) trivial ?_
    simp only [AP]
    refine wpSeq_yield (S := fun _ => True) (yieldsIf_pick rfl _ _ _ rfl true rfl (.bool true) rfl) trivial ?_
    simp only [AP]
    refine wpSeq_yield (S := fun _ => True) (yieldsIf_move rfl _ rfl (.bool true) rfl) trivial ?_
    simp only [AP]
    refine wpSeq_yield (S := fun _ => True) (yieldsIf_off rfl) trivial ?_
    simp only [AP]
    refine wpSeq_yield (S := fun _ => True) (yieldsIf_off rfl) trivial ?_
    simp only [AP]
    refine wpSeq_yield (S := fun _ => True) (yieldsIf_pick rfl _ _ _ rfl true rfl (.bool true) rfl) trivial ?_
    simp only [AP]
    refine wpSeq_yield (S := fun _ => True) (yieldsIf_move rfl _ rfl (.bool true) rfl) trivial ?_
    simp only [AP]
    refine wpSeq_yield (S := fun _ => True) (yieldsIf_off rfl) trivial ?_
    simp only [AP]
    refine wpSeq_yield (S := fun _ => True) (yieldsIf_off rfl) trivial ?_
    simp only [AP]
    refine wpSeq_yield (S := fun _ => True) (yieldsIf_pick rfl _ _ _ rfl true rfl (.bool true) rfl) trivial ?_
    simp only [AP]
    refine wpSeq_yield (S := fun _ => True) (yieldsIf_move rfl _ rfl (.bool true) rfl) trivial ?_
    simp only [AP]
    refine wpSeq_yield (S := fun _ => True) (yieldsIf_off rfl) trivial ?_
    simp only [AP]
    refine wpSeq_yield (S := fun _ => True) (yieldsIf_off rfl) trivial ?_
    simp only [AP]
    refine wpSeq_yield (S := fun _ => True) (yieldsIf_pick rfl _ _ _ rfl true rfl (.bool true) rfl) trivial ?_
    simp only [AP]
    refine wpSeq_yield (S := fun _ => True) (yieldsIf_move rfl _ rfl (.bool true) rfl) trivial ?_
    simp only [AP]
    refine wpSeq_yield (S := fun _ => True) (yieldsIf_off rfl) trivial ?_
    simp only [AP]
    refine wpSeq_yield (S := fun _ => True) (yieldsIf_off rfl) trivial ?_
    simp only [AP]
    refine wpSeq_yield (S := fun _ => True) (yieldsIf_pick rfl _ _ _ rfl true rfl (.bool true) rfl) trivial ?_
    simp only [AP]
    refine wpSeq_nil ?_
    refine aK _ _ ?_
    clear aK
    go_upto_region 2 with fail
    rename_i aK
    refine wp_region_seq ?_
    refine wpSeq_yield (S := fun _ => True) (yieldsIf_assign rfl _ rfl (.slice none 0 0) rfl) trivial ?_
    simp only [AP]
    refine wpSeq_yield (S := fun _ => True) (yieldsIf_assign rfl _ rfl (.int .i64 2) rfl) trivial ?_
    simp only [AP]
    refine wpSeq_nil ?_
    refine aK _ _ ?_
    clear aK
    go_wp2
    refine bodyPost_ret (results_tmp2 rfl _ _ _) rfl ?_
    exact ⟨_, rfl, OwL.nil _ _, b.out⟩
  by_cases q3 : m ≠ 8
  · skip
    clear hb
    go_upto_region 1 with fail
    rename_i aK
    refine wp_region_seq ?_
    refine wpSeq_yield (S := fun _ => True) (v := .pointer (some ⟨W.heap.size, 0, none⟩)) (Or.inl ⟨by rfl, fun w' hw' => by go_simp⟩) trivial ?_
    simp only [AP]
    refine wpSeq_yield (S := fun w' => w' = W2) (v := .int .i64 sp) (Or.inl ⟨by rfl, fun w' hw' => by (rw [hw']; go_simp)⟩) rfl ?_
    simp only [AP]
    refine wpSeq_yield (S := fun _ => True) (v := .bool false) (Or.inl ⟨by rfl, fun w' hw' => by (go_simp; try omega)⟩) trivial ?_
    simp only [AP]
    refine wpSeq_yield (S := fun _ => True) (yieldsIf_move rfl _ rfl (.bool false) rfl) trivial ?_
    simp only [AP]
    refine wpSeq_yield (S := fun _ => True) (v := .pointer (some ⟨W.heap.size, 0, none⟩)) (Or.inl ⟨by rfl, fun w' hw' => by go_simp⟩) trivial ?_
    simp only [AP]
    refine wpSeq_yield (S := fun w' => w' = W2) (v := .int .i64 sp) (Or.inl ⟨by rfl, fun w' hw' => by (rw [hw']; go_simp)⟩) rfl ?_
    simp only [AP]
    refine wpSeq_yield (S := fun _ => True) (v := .bool false) (Or.inl ⟨by rfl, fun w' hw' => by (go_simp; try omega)⟩) trivial ?_
    simp only [AP]
    refine wpSeq_yield (S := fun _ => True) (yieldsIf_pick rfl _ _ _ rfl false rfl (.bool false) rfl) trivial ?_
    simp only [AP]
    refine wpSeq_yield (S := fun _ => True) (yieldsIf_move rfl _ rfl (.bool false) rfl) trivial ?_
    simp only [AP]
    refine wpSeq_yield (S := fun _ => True) (v := .pointer (some ⟨W.heap.size, 1, none⟩)) (Or.inl ⟨by rfl, fun w' hw' => by go_simp⟩) trivial ?_
    simp only [AP]
    refine wpSeq_yield (S := fun w' => w' = W2) (v := .slice p1 m c1) (Or.inl ⟨by rfl, fun w' hw' => by (rw [hw']; go_simp)⟩) rfl ?_
    simp only [AP]
    refine wpSeq_yield (S := fun _ => True) (v := .int .i64 (m : Int)) (Or.inl ⟨by rfl, fun w' hw' => by go_simp⟩) trivial ?_
    simp only [AP]
    refine wpSeq_yield (S := fun _ => True) (v := .bool true) (Or.inl ⟨by rfl, fun w' hw' => by (go_simp; try omega)⟩) trivial ?_
    simp only [AP]
    refine wpSeq_yield (S := fun _ => True) (yieldsIf_pick rfl _ _ _ rfl false rfl (.bool true) rfl) trivial ?_
    simp only [AP]
    refine wpSeq_yield (S := fun _ => True) (yieldsIf_move rfl _ rfl (.bool true) rfl) trivial ?_
    simp only [AP]
    refine wpSeq_yield (S := fun _ => True) (yieldsIf_off rfl) trivial ?_
    simp only [AP]
    refine wpSeq_yield (S := fun _ => True) (yieldsIf_off rfl) trivial ?_
    simp only [AP]
    refine wpSeq_yield (S := fun _ => True) (yieldsIf_off rfl) trivial ?_
    simp only [AP]
    refine wpSeq_yield (S := fun _ => True) (yieldsIf_off rfl) trivial ?_
    simp only [AP]
    refine wpSeq_yield (S := fun _ => True) (yieldsIf_off rfl) trivial ?_
    simp only [AP]
    refine wpSeq_yield (S := fun _ => True) (yieldsIf_off rfl) trivial ?_
    simp only [AP]
    refine wpSeq_yield (S := fun _ => True) (yieldsIf_off rfl) trivial ?_
    simp only [AP]
    refine wpSeq_yield (S := fun _ => True) (yieldsIf_off rfl) trivial ?_
    simp only [AP]
    refine wpSeq_yield (S := fun _ => True) (yieldsIf_off rfl) trivial ?_
    simp only [AP]
    refine wpSeq_yield (S := fun _ => True) (yieldsIf_pick rfl _ _ _ rfl true rfl (.bool true) rfl) trivial ?_
    simp only [AP]
    refine wpSeq_yield (S := fun _ => True) (yieldsIf_move rfl _ rfl (.bool true) rfl) trivial ?_
    simp only [AP]
    refine wpSeq_yield (S := fun _ => True) (yieldsIf_off rfl) trivial ?_
    simp only [AP]
    refine wpSeq_yield (S := fun _ => True) (yieldsIf_off rfl) trivial ?_
    simp only [AP]
    refine wpSeq_yield (S := fun _ => True) (yieldsIf_pick rfl _ _ _ rfl true rfl (.bool true) rfl) trivial ?_
    simp only [AP]
    refine wpSeq_yield (S := fun _ => True) (yieldsIf_move rfl _ rfl (.bool true) rfl) trivial ?_
    simp only [AP]
    refine wpSeq_yield (S := fun _ => True) (yieldsIf_off rfl) trivial ?_
    simp only [AP]
    refine wpSeq_yield (S := fun _ => True) (yieldsIf_off rfl) trivial ?_
    simp only [AP]
    refine wpSeq_yield (S := fun _ => True) (yieldsIf_pick rfl _ _ _ rfl true rfl (.bool true) rfl) trivial ?_
    simp only [AP]
    refine wpSeq_yield (S := fun _ => True) (yieldsIf_move rfl _ rfl (.bool true) rfl) trivial ?_
    simp only [AP]
    refine wpSeq_yield (S := fun _ => True) (yieldsIf_off rfl) trivial ?_
    simp only [AP]
    refine wpSeq_yield (S := fun _ => True) (yieldsIf_off rfl) trivial ?_
    simp only [AP]
    refine wpSeq_yield (S := fun _ => True) (yieldsIf_pick rfl _ _ _ rfl true rfl (.bool true) rfl) trivial ?_
    simp only [AP]
    refine wpSeq_yield (S := fun _ => True) (yieldsIf_move rfl _ rfl (.bool true) rfl) trivial ?_
    simp only [AP]
    refine wpSeq_yield (S := fun _ => True) (yieldsIf_off rfl) trivial ?_
    simp only [AP]
    refine wpSeq_yield (S := fun _ => True) (yieldsIf_off rfl) trivial ?_
    simp only [AP]
    refine wpSeq_yield (S := fun _ => True) (yieldsIf_pick rfl _ _ _ rfl true rfl (.bool true) rfl) trivial ?_
    simp only [AP]
    refine wpSeq_nil ?_
    refine aK _ _ ?_
    clear aK
    go_upto_region 2 with fail
    rename_i aK
    refine wp_region_seq ?_
    refine wpSeq_yield (S := fun _ => True) (yieldsIf_assign rfl _ rfl (.slice none 0 0) rfl) trivial ?_
    simp only [AP]
    refine wpSeq_yield (S := fun _ => True) (yieldsIf_assign rfl _ rfl (.int .i64 2) rfl) trivial ?_
    simp only [AP]
    refine wpSeq_nil ?_
    refine aK _ _ ?_
    clear aK
    go_wp2
    refine bodyPost_ret (results_tmp2 rfl _ _ _) rfl ?_
    exact ⟨_, rfl, OwL.nil _ _, b.out⟩
  by_cases q4 : sp < 2
  · skip
    by_cases q5 : n ≠ 8
    · skip
      clear hb
      go_upto_region 1 with fail
      rename_i aK
      refine wp_region_seq ?_
      refine wpSeq_yield (S := fun _ => True) (v := .pointer (some ⟨W.heap.size, 0, none⟩)) (Or.inl ⟨by rfl, fun w' hw' => by go_simp⟩) trivial ?_
      simp only [AP]
      refine wpSeq_yield (S := fun w' => w' = W2) (v := .int .i64 sp) (Or.inl ⟨by rfl, fun w' hw' => by (rw [hw']; go_simp)⟩) rfl ?_
      simp only [AP]
      refine wpSeq_yield (S := fun _ => True) (v := .bool false) (Or.inl ⟨by rfl, fun w' hw' => by (go_simp; try omega)⟩) trivial ?_
      simp only [AP]
      refine wpSeq_yield (S := fun _ => True) (yieldsIf_move rfl _ rfl (.bool false) rfl) trivial ?_
      simp only [AP]
      refine wpSeq_yield (S := fun _ => True) (v := .pointer (some ⟨W.heap.size, 0, none⟩)) (Or.inl ⟨by rfl, fun w' hw' => by go_simp⟩) trivial ?_
      simp only [AP]
      refine wpSeq_yield (S := fun w' => w' = W2) (v := .int .i64 sp) (Or.inl ⟨by rfl, fun w' hw' => by (rw [hw']; go_simp)⟩) rfl ?_
      simp only [AP]
      refine wpSeq_yield (S := fun _ => True) (v := .bool false) (Or.inl ⟨by rfl, fun w' hw' => by (go_simp; try omega)⟩) trivial ?_
      simp only [AP]
      refine wpSeq_yield (S := fun _ => True) (yieldsIf_pick rfl _ _ _ rfl false rfl (.bool false) rfl) trivial ?_
      simp only [AP]
      refine wpSeq_yield (S := fun _ => True) (yieldsIf_move rfl _ rfl (.bool false) rfl) trivial ?_
      simp only [AP]
      refine wpSeq_yield (S := fun _ => True) (v := .pointer (some ⟨W.heap.size, 1, none⟩)) (Or.inl ⟨by rfl, fun w' hw' => by go_simp⟩) trivial ?_
      simp only [AP]
      refine wpSeq_yield (S := fun w' => w' = W2) (v := .slice p1 m c1) (Or.inl ⟨by rfl, fun w' hw' => by (rw [hw']; go_simp)⟩) rfl ?_
      simp only [AP]
      refine wpSeq_yield (S := fun _ => True) (v := .int .i64 (m : Int)) (Or.inl ⟨by rfl, fun w' hw' => by go_simp⟩) trivial ?_
      simp only [AP]
      refine wpSeq_yield (S := fun _ => True) (v := .bool false) (Or.inl ⟨by rfl, fun w' hw' => by (go_simp; try omega)⟩) trivial ?_
      simp only [AP]
      refine wpSeq_yield (S := fun _ => True) (yieldsIf_pick rfl _ _ _ rfl false rfl (.bool false) rfl) trivial ?_
      simp only [AP]
      refine wpSeq_yield (S := fun _ => True) (yieldsIf_move rfl _ rfl (.bool false) rfl) trivial ?_
      simp only [AP]
      refine wpSeq_yield (S := fun _ => True) (v := .pointer (some ⟨W.heap.size, 0, none⟩)) (Or.inl ⟨by rfl, fun w' hw' => by go_simp⟩) trivial ?_
      simp only [AP]
      refine wpSeq_yield (S := fun w' => w' = W2) (v := .int .i64 sp) (Or.inl ⟨by rfl, fun w' hw' => by (rw [hw']; go_simp)⟩) rfl ?_
      simp only [AP]
      refine wpSeq_yield (S := fun _ => True) (v := .bool true) (Or.inl ⟨by rfl, fun w' hw' => by (go_simp; try omega)⟩) trivial ?_
      simp only [AP]
      refine wpSeq_yield (S := fun _ => True) (yieldsIf_move rfl _ rfl (.bool true) rfl) trivial ?_
      simp only [AP]
      refine wpSeq_yield (S := fun _ => True) (v := .pointer (some ⟨W.heap.size, 2, none⟩)) (Or.inl ⟨by rfl, fun w' hw' => by go_simp⟩) trivial ?_
      simp only [AP]
      refine wpSeq_yield (S := fun w' => w' = W2) (v := .slice p2 n c2) (Or.inl ⟨by rfl, fun w' hw' => by (rw [hw']; go_simp)⟩) rfl ?_
      simp only [AP]
      refine wpSeq_yield (S := fun _ => True) (v := .int .i64 (n : Int)) (Or.inl ⟨by rfl, fun w' hw' => by go_simp⟩) trivial ?_
      simp only [AP]
      refine wpSeq_yield (S := fun _ => True) (v := .bool true) (Or.inl ⟨by rfl, fun w' hw' => by (go_simp; try omega)⟩) trivial ?_
      simp only [AP]
      refine wpSeq_yield (S := fun _ => True) (yieldsIf_pick rfl _ _ _ rfl true rfl (.bool true) rfl) trivial ?_
      simp only [AP]
      refine wpSeq_yield (S := fun _ => True) (yieldsIf_pick rfl _ _ _ rfl false rfl (.bool true) rfl) trivial ?_
      simp only [AP]
      refine wpSeq_yield (S := fun _ => True) (yieldsIf_move rfl _ rfl (.bool true) rfl) trivial ?_
      simp only [AP]
      refine wpSeq_yield (S := fun _ => True) (yieldsIf_off rfl) trivial ?_
      simp only [AP]
      refine wpSeq_yield (S := fun _ => True) (yieldsIf_off rfl) trivial ?_
      simp only [AP]
      refine wpSeq_yield (S := fun _ => True) (yieldsIf_pick rfl _ _ _ rfl true rfl (.bool true) rfl) trivial ?_
      simp only [AP]
      refine wpSeq_yield (S := fun _ => True) (yieldsIf_move rfl _ rfl (.bool true) rfl) trivial ?_
      simp only [AP]
      refine wpSeq_yield (S := fun _ => True) (yieldsIf_off rfl) trivial ?_
      simp only [AP]
      refine wpSeq_yield (S := fun _ => True) (yieldsIf_off rfl) trivial ?_
      simp only [AP]
      refine wpSeq_yield (S := fun _ => True) (yieldsIf_pick rfl _ _ _ rfl true rfl (.bool true) rfl) trivial ?_
      simp only [AP]
      refine wpSeq_yield (S := fun _ => True) (yieldsIf_move rfl _ rfl (.bool true) rfl) trivial ?_
      simp only [AP]
      refine wpSeq_yield (S := fun _ => True) (yieldsIf_off rfl) trivial ?_
      simp only [AP]
      refine wpSeq_yield (S := fun _ => True) (yieldsIf_off rfl) trivial ?_
      simp only [AP]
      refine wpSeq_yield (S := fun _ => True) (yieldsIf_pick rfl _ _ _ rfl true rfl (.bool true) rfl) trivial ?_
      simp only [AP]
      refine wpSeq_yield (S := fun _ => True) (yieldsIf_move rfl _ rfl (.bool true) rfl) trivial ?_
      simp only [AP]
      refine wpSeq_yield (S := fun _ => True) (yieldsIf_off rfl) trivial ?_
      simp only [AP]
      refine wpSeq_yield (S := fun _ => True) (yieldsIf_off rfl) trivial ?_
      simp only [AP]
      refine wpSeq_yield (S := fun _ => True) (yieldsIf_pick rfl _ _ _ rfl true rfl (.bool true) rfl) trivial ?_
      simp only [AP]
      refine wpSeq_nil ?_
      refine aK _ _ ?_
      clear aK
      go_upto_region 2 with fail
      rename_i aK
      refine wp_region_seq ?_
      refine wpSeq_yield (S := fun _ => True) (yieldsIf_assign rfl _ rfl (.slice none 0 0) rfl) trivial ?_
      simp only [AP]
      refine wpSeq_yield (S := fun _ => True) (yieldsIf_assign rfl _ rfl (.int .i64 2) rfl) trivial ?_
      simp only [AP]
      refine wpSeq_nil ?_
      refine aK _ _ ?_
      clear aK
      go_wp2
      refine bodyPost_ret (results_tmp2 rfl _ _ _) rfl ?_
      exact ⟨_, rfl, OwL.nil _ _, b.out⟩
    by_cases r5 : k < 1
    · skip
      clear hb
      go_upto_region 1 with fail
      rename_i aK
      refine wp_region_seq ?_
      refine wpSeq_yield (S := fun _ => True) (v := .pointer (some ⟨W.heap.size, 0, none⟩)) (Or.inl ⟨by rfl, fun w' hw' => by go_simp⟩) trivial ?_
      simp only [AP]
      refine wpSeq_yield (S := fun w' => w' = W2) (v := .int .i64 sp) (Or.inl ⟨by rfl, fun w' hw' => by (rw [hw']; go_simp)⟩) rfl ?_
      simp only [AP]
      refine wpSeq_yield (S := fun _ => True) (v := .bool false) (Or.inl ⟨by rfl, fun w' hw' => by (go_simp; try omega)⟩) trivial ?_
      simp only [AP]
      refine wpSeq_yield (S := fun _ => True) (yieldsIf_move rfl _ rfl (.bool false) rfl) trivial ?_
      simp only [AP]
      refine wpSeq_yield (S := fun _ => True) (v := .pointer (some ⟨W.heap.size, 0, none⟩)) (Or.inl ⟨by rfl, fun w' hw' => by go_simp⟩) trivial ?_
      simp only [AP]
      refine wpSeq_yield (S := fun w' => w' = W2) (v := .int .i64 sp) (Or.inl ⟨by rfl, fun w' hw' => by (rw [hw']; go_simp)⟩) rfl ?_
      simp only [AP]
      refine wpSeq_yield (S := fun _ => True) (v := .bool false) (Or.inl ⟨by rfl, fun w' hw' => by (go_simp; try omega)⟩) trivial ?_
      simp only [AP]
      refine wpSeq_yield (S := fun _ => True) (yieldsIf_pick rfl _ _ _ rfl false rfl (.bool false) rfl) trivial ?_
      simp only [AP]
      refine wpSeq_yield (S := fun _ => True) (yieldsIf_move rfl _ rfl (.bool false) rfl) trivial ?_
      simp only [AP]
      refine wpSeq_yield (S := fun _ => True) (v := .pointer (some ⟨W.heap.size, 1, none⟩)) (Or.inl ⟨by rfl, fun w' hw' => by go_simp⟩) trivial ?_
      simp only [AP]
      refine wpSeq_yield (S := fun w' => w' = W2) (v := .slice p1 m c1) (Or.inl ⟨by rfl, fun w' hw' => by (rw [hw']; go_simp)⟩) rfl ?_
      simp only [AP]
      refine wpSeq_yield (S := fun _ => True) (v := .int .i64 (m : Int)) (Or.inl ⟨by rfl, fun w' hw' => by go_simp⟩) trivial ?_
      simp only [AP]
      refine wpSeq_yield (S := fun _ => True) (v := .bool false) (Or.inl ⟨by rfl, fun w' hw' => by (go_simp; try omega)⟩) trivial ?_
      simp only [AP]
      refine wpSeq_yield (S := fun _ => True) (yieldsIf_pick rfl _ _ _ rfl false rfl (.bool false) rfl) trivial ?_
      simp only [AP]
      refine wpSeq_yield (S := fun _ => True) (yieldsIf_move rfl _ rfl (.bool false) rfl) trivial ?_
      simp only [AP]
      refine wpSeq_yield (S := fun _ => True) (v := .pointer (some ⟨W.heap.size, 0, none⟩)) (Or.inl ⟨by rfl, fun w' hw' => by go_simp⟩) trivial ?_
      simp only [AP]
      refine wpSeq_yield (S := fun w' => w' = W2) (v := .int .i64 sp) (Or.inl ⟨by rfl, fun w' hw' => by (rw [hw']; go_simp)⟩) rfl ?_
      simp only [AP]
      refine wpSeq_yield (S := fun _ => True) (v := .bool true) (Or.inl ⟨by rfl, fun w' hw' => by (go_simp; try omega)⟩) trivial ?_
      simp only [AP]
      refine wpSeq_yield (S := fun _ => True) (yieldsIf_move rfl _ rfl (.bool true) rfl) trivial ?_
      simp only [AP]
      refine wpSeq_yield (S := fun _ => True) (v := .pointer (some ⟨W.heap.size, 2, none⟩)) (Or.inl ⟨by rfl, fun w' hw' => by go_simp⟩) trivial ?_
      simp only [AP]
      refine wpSeq_yield (S := fun w' => w' = W2) (v := .slice p2 n c2) (Or.inl ⟨by rfl, fun w' hw' => by (rw [hw']; go_simp)⟩) rfl ?_
      simp only [AP]
      refine wpSeq_yield (S := fun _ => True) (v := .int .i64 (n : Int)) (Or.inl ⟨by rfl, fun w' hw' => by go_simp⟩) trivial ?_
      simp only [AP]
      refine wpSeq_yield (S := fun _ => True) (v := .bool false) (Or.inl ⟨by rfl, fun w' hw' => by (go_simp; try omega)⟩) trivial ?_
      simp only [AP]
      refine wpSeq_yield (S := fun _ => True) (yieldsIf_pick rfl _ _ _ rfl true rfl (.bool false) rfl) trivial ?_
      simp only [AP]
      refine wpSeq_yield (S := fun _ => True) (yieldsIf_pick rfl _ _ _ rfl false rfl (.bool false) rfl) trivial ?_
      simp only [AP]
      refine wpSeq_yield (S := fun _ => True) (yieldsIf_move rfl _ rfl (.bool false) rfl) trivial ?_
      simp only [AP]
      refine wpSeq_yield (S := fun _ => True) (yieldsIf_move rfl _ rfl (.int .i64 k) rfl) trivial ?_
      simp only [AP]
      refine wpSeq_yield (S := fun _ => True) (v := .bool true) (Or.inl ⟨by rfl, fun w' hw' => by (go_simp; try omega)⟩) trivial ?_
      simp only [AP]
      refine wpSeq_yield (S := fun _ => True) (yieldsIf_pick rfl _ _ _ rfl false rfl (.bool true) rfl) trivial ?_
      simp only [AP]
      refine wpSeq_yield (S := fun _ => True) (yieldsIf_move rfl _ rfl (.bool true) rfl) trivial ?_
      simp only [AP]
      refine wpSeq_yield (S := fun _ => True) (yieldsIf_off rfl) trivial ?_
      simp only [AP]
      refine wpSeq_yield (S := fun _ => True) (yieldsIf_off rfl) trivial ?_
      simp only [AP]
      refine wpSeq_yield (S := fun _ => True) (yieldsIf_pick rfl _ _ _ rfl true rfl (.bool true) rfl) trivial ?_
      simp only [AP]
      refine wpSeq_yield (S := fun _ => True) (yieldsIf_move rfl _ rfl (.bool true) rfl) trivial ?_
      simp only [AP]
      refine wpSeq_yield (S := fun _ => True) (yieldsIf_off rfl) trivial ?_
      simp only [AP]
      refine wpSeq_yield (S := fun _ => True) (yieldsIf_off rfl) trivial ?_
      simp only [AP]
      refine wpSeq_yield (S := fun _ => True) (yieldsIf_pick rfl _ _ _ rfl true rfl (.bool true) rfl) trivial ?_
      simp only [AP]
      refine wpSeq_yield (S := fun _ => True) (yieldsIf_move rfl _ rfl (.bool true) rfl) trivial ?_
      simp only [AP]
      refine wpSeq_yield (S := fun _ => True) (yieldsIf_off rfl) trivial ?_
      simp only [AP]
      refine wpSeq_yield (S := fun _ => True) (yieldsIf_off rfl) trivial ?_
      simp only [AP]
      refine wpSeq_yield (S := fun _ => True) (yieldsIf_pick rfl _ _ _ rfl true rfl (.bool true) rfl) trivial ?_
      simp only [AP]
      refine wpSeq_nil ?_
      refine aK _ _ ?_
      clear aK
      go_upto_region 2 with fail
      rename_i aK
      refine wp_region_seq ?_
      refine wpSeq_yield (S := fun _ => True) (yieldsIf_assign rfl _ rfl (.slice none 0 0) rfl) trivial ?_
      simp only [AP]
      refine wpSeq_yield (S := fun _ => True) (yieldsIf_assign rfl _ rfl (.int .i64 2) rfl) trivial ?_
      simp only [AP]
      refine wpSeq_nil ?_
      refine aK _ _ ?_
      clear aK
      go_wp2
      refine bodyPost_ret (results_tmp2 rfl _ _ _) rfl ?_
      exact ⟨_, rfl, OwL.nil _ _, b.out⟩
    by_cases r6 : 4 < k
    · skip
      clear hb
      go_upto_region 1 with fail
      rename_i aK
      refine wp_region_seq ?_
      refine wpSeq_yield (S := fun _ => True) (v := .pointer (some ⟨W.heap.size, 0, none⟩)) (Or.inl ⟨by rfl, fun w' hw' => by go_simp⟩) trivial ?_
      simp only [AP]
      refine wpSeq_yield (S := fun w' => w' = W2) (v := .int .i64 sp) (Or.inl ⟨by rfl, fun w' hw' => by (rw [hw']; go_simp)⟩) rfl ?_
      simp only [AP]
      refine wpSeq_yield (S := fun _ => True) (v := .bool false) (Or.inl ⟨by rfl, fun w' hw' => by (go_simp; try omega)⟩) trivial ?_
      simp only [AP]
      refine wpSeq_yield (S := fun _ => True) (yieldsIf_move rfl _ rfl (.bool false) rfl) trivial ?_
      simp only [AP]
      refine wpSeq_yield (S := fun _ => True) (v := .pointer (some ⟨W.heap.size, 0, none⟩)) (Or.inl ⟨by rfl, fun w' hw' => by go_simp⟩) trivial ?_
      simp only [AP]
      refine wpSeq_yield (S := fun w' => w' = W2) (v := .int .i64 sp) (Or.inl ⟨by rfl, fun w' hw' => by (rw [hw']; go_simp)⟩) rfl ?_
      simp only [AP]
      refine wpSeq_yield (S := fun _ => True) (v := .bool false) (Or.inl ⟨by rfl, fun w' hw' => by (go_simp; try omega)⟩) trivial ?_
      simp only [AP]
      refine wpSeq_yield (S := fun _ => True) (yieldsIf_pick rfl _ _ _ rfl false rfl (.bool false) rfl) trivial ?_
      simp only [AP]
      refine wpSeq_yield (S := fun _ => True) (yieldsIf_move rfl _ rfl (.bool false) rfl) trivial ?_
      simp only [AP]
      refine wpSeq_yield (S := fun _ => True) (v := .pointer (some ⟨W.heap.size, 1, none⟩)) (Or.inl ⟨by rfl, fun w' hw' => by go_simp⟩) trivial ?_
      simp only [AP]
      refine wpSeq_yield (S := fun w' => w' = W2) (v := .slice p1 m c1) (Or.inl ⟨by rfl, fun w' hw' => by (rw [hw']; go_simp)⟩) rfl ?_
      simp only [AP]
      refine wpSeq_yield (S := fun _ => True) (v := .int .i64 (m : Int)) (Or.inl ⟨by rfl, fun w' hw' => by go_simp⟩) trivial ?_
      simp only [AP]
      refine wpSeq_yield (S := fun _ => True) (v := .bool false) (Or.inl ⟨by rfl, fun w' hw' => by (go_simp; try omega)⟩) trivial ?_
      simp only [AP]
      refine wpSeq_yield (S := fun _ => True) (yieldsIf_pick rfl _ _ _ rfl false rfl (.bool false) rfl) trivial ?_
      simp only [AP]
      refine wpSeq_yield (S := fun _ => True) (yieldsIf_move rfl _ rfl (.bool false) rfl) trivial ?_
      simp only [AP]
      refine wpSeq_yield (S := fun _ => True) (v := .pointer (some ⟨W.heap.size, 0, none⟩)) (Or.inl ⟨by rfl, fun w' hw' => by go_simp⟩) trivial ?_
      simp only [AP]
      refine wpSeq_yield (S := fun w' => w' = W2) (v := .int .i64 sp) (Or.inl ⟨by rfl, fun w' hw' => by (rw [hw']; go_simp)⟩) rfl ?_
      simp only [AP]
      refine wpSeq_yield (S := fun _ => True) (v := .bool true) (Or.inl ⟨by rfl, fun w' hw' => by (go_simp; try omega)⟩) trivial ?_
      simp only [AP]
      refine wpSeq_yield (S := fun _ => True) (yieldsIf_move rfl _ rfl (.bool true) rfl) trivial ?_
      simp only [AP]
      refine wpSeq_yield (S := fun _ => True) (v := .pointer (some ⟨W.heap.size, 2, none⟩)) (Or.inl ⟨by rfl, fun w' hw' => by go_simp⟩) trivial ?_
      simp only [AP]
      refine wpSeq_yield (S := fun w' => w' = W2) (v := .slice p2 n c2) (Or.inl ⟨by rfl, fun w' hw' => by (rw [hw']; go_simp)⟩) rfl ?_
      simp only [AP]
      refine wpSeq_yield (S := fun _ => True) (v := .int .i64 (n : Int)) (Or.inl ⟨by rfl, fun w' hw' => by go_simp⟩) trivial ?_
      simp only [AP]
      refine wpSeq_yield (S := fun _ => True) (v := .bool false) (Or.inl ⟨by rfl, fun w' hw' => by (go_simp; try omega)⟩) trivial ?_
      simp only [AP]
      refine wpSeq_yield (S := fun _ => True) (yieldsIf_pick rfl _ _ _ rfl true rfl (.bool false) rfl) trivial ?_
      simp only [AP]
      refine wpSeq_yield (S := fun _ => True) (yieldsIf_pick rfl _ _ _ rfl false rfl (.bool false) rfl) trivial ?_
      simp only [AP]
      refine wpSeq_yield (S := fun _ => True) (yieldsIf_move rfl _ rfl (.bool false) rfl) trivial ?_
      simp only [AP]
      refine wpSeq_yield (S := fun _ => True) (yieldsIf_move rfl _ rfl (.int .i64 k) rfl) trivial ?_
      simp only [AP]
      refine wpSeq_yield (S := fun _ => True) (v := .bool false) (Or.inl ⟨by rfl, fun w' hw' => by (go_simp; try omega)⟩) trivial ?_
      simp only [AP]
      refine wpSeq_yield (S := fun _ => True) (yieldsIf_pick rfl _ _ _ rfl false rfl (.bool false) rfl) trivial ?_
      simp only [AP]
      refine wpSeq_yield (S := fun _ => True) (yieldsIf_move rfl _ rfl (.bool false) rfl) trivial ?_
      simp only [AP]
      refine wpSeq_yield (S := fun _ => True) (yieldsIf_move rfl _ rfl (.int .i64 k) rfl) trivial ?_
      simp only [AP]
      refine wpSeq_yield (S := fun _ => True) (v := .bool true) (Or.inl ⟨by rfl, fun w' hw' => by (go_simp; try omega)⟩) trivial ?_
      simp only [AP]
      refine wpSeq_yield (S := fun _ => True) (yieldsIf_pick rfl _ _ _ rfl false rfl (.bool true) rfl) trivial ?_
      simp only [AP]
      refine wpSeq_yield (S := fun _ => True) (yieldsIf_move rfl _ rfl (.bool true) rfl) trivial ?_
      simp only [AP]
      refine wpSeq_yield (S := fun _ => True) (yieldsIf_off rfl) trivial ?_
      simp only [AP]
      refine wpSeq_yield (S := fun _ => True) (yieldsIf_off rfl) trivial ?_
      simp only [AP]
      refine wpSeq_yield (S := fun _ => True) (yieldsIf_pick rfl _ _ _ rfl true rfl (.bool true) rfl) trivial ?_
      simp only [AP]
      refine wpSeq_yield (S := fun _ => True) (yieldsIf_move rfl _ rfl (.bool true) rfl) trivial ?_
      simp only [AP]
      refine wpSeq_yield (S := fun _ => True) (yieldsIf_off rfl) trivial ?_
      simp only [AP]
      refine wpSeq_yield (S := fun _ => True) (yieldsIf_off rfl) trivial ?_
      simp only [AP]
      refine wpSeq_yield (S := fun _ => True) (yieldsIf_pick rfl _ _ _ rfl true rfl (.bool true) rfl) trivial ?_
      simp only [AP]
      refine wpSeq_nil ?_
      refine aK _ _ ?_
      clear aK
      go_upto_region 2 with fail
      rename_i aK
      refine wp_region_seq ?_
      refine wpSeq_yield (S := fun _ => True) (yieldsIf_assign rfl _ rfl (.slice none 0 0) rfl) trivial ?_
      simp only [AP]
      refine wpSeq_yield (S := fun _ => True) (yieldsIf_assign rfl _ rfl (.int .i64 2) rfl) trivial ?_
      simp only [AP]
      refine wpSeq_nil ?_
      refine aK _ _ ?_
      clear aK
      go_wp2
      refine bodyPost_ret (results_tmp2 rfl _ _ _) rfl ?_
      exact ⟨_, rfl, OwL.nil _ _, b.out⟩
    by_cases r7 : z < 0
    · skip
      clear hb
      go_upto_region 1 with fail
      rename_i aK
      refine wp_region_seq ?_
      refine wpSeq_yield (S := fun _ => True) (v := .pointer (some ⟨W.heap.size, 0, none⟩)) (Or.inl ⟨by rfl, fun w' hw' => by go_simp⟩) trivial ?_
      simp only [AP]
      refine wpSeq_yield (S := fun w' => w' = W2) (v := .int .i64 sp) (Or.inl ⟨by rfl, fun w' hw' => by (rw [hw']; go_simp)⟩) rfl ?_
      simp only [AP]
      refine wpSeq_yield (S := fun _ => True) (v := .bool false) (Or.inl ⟨by rfl, fun w' hw' => by (go_simp; try omega)⟩) trivial ?_
      simp only [AP]
      refine wpSeq_yield (S := fun _ => True) (yieldsIf_move rfl _ rfl (.bool false) rfl) trivial ?_
      simp only [AP]
      refine wpSeq_yield (S := fun _ => True) (v := .pointer (some ⟨W.heap.size, 0, none⟩)) (Or.inl ⟨by rfl, fun w' hw' => by go_simp⟩) trivial ?_
      simp only [AP]
      refine wpSeq_yield (S := fun w' => w' = W2) (v := .int .i64 sp) (Or.inl ⟨by rfl, fun w' hw' => by (rw [hw']; go_simp)⟩) rfl ?_
      simp only [AP]
      refine wpSeq_yield (S := fun _ => True) (v := .bool false) (Or.inl ⟨by rfl, fun w' hw' => by (go_simp; try omega)⟩) trivial ?_
      simp only [AP]
      refine wpSeq_yield (S := fun _ => True) (yieldsIf_pick rfl _ _ _ rfl false rfl (.bool false) rfl) trivial ?_
      simp only [AP]
      refine wpSeq_yield (S := fun _ => True) (yieldsIf_move rfl _ rfl (.bool false) rfl) trivial ?_
      simp only [AP]
      refine wpSeq_yield (S := fun _ => True) (v := .pointer (some ⟨W.heap.size, 1, none⟩)) (Or.inl ⟨by rfl, fun w' hw' => by go_simp⟩) trivial ?_
      simp only [AP]
      refine wpSeq_yield (S := fun w' => w' = W2) (v := .slice p1 m c1) (Or.inl ⟨by rfl, fun w' hw' => by (rw [hw']; go_simp)⟩) rfl ?_
      simp only [AP]
      refine wpSeq_yield (S := fun _ => True) (v := .int .i64 (m : Int)) (Or.inl ⟨by rfl, fun w' hw' => by go_simp⟩) trivial ?_
      simp only [AP]
      refine wpSeq_yield (S := fun _ => True) (v := .bool false) (Or.inl ⟨by rfl, fun w' hw' => by (go_simp; try omega)⟩) trivial ?_
      simp only [AP]
      refine wpSeq_yield (S := fun _ => True) (yieldsIf_pick rfl _ _ _ rfl false rfl (.bool false) rfl) trivial ?_
      simp only [AP]
      refine wpSeq_yield (S := fun _ => True) (yieldsIf_move rfl _ rfl (.bool false) rfl) trivial ?_
      simp only [AP]
      refine wpSeq_yield (S := fun _ => True) (v := .pointer (some ⟨W.heap.size, 0, none⟩)) (Or.inl ⟨by rfl, fun w' hw' => by go_simp⟩) trivial ?_
      simp only [AP]
      refine wpSeq_yield (S := fun w' => w' = W2) (v := .int .i64 sp) (Or.inl ⟨by rfl, fun w' hw' => by (rw [hw']; go_simp)⟩) rfl ?_
      simp only [AP]
      refine wpSeq_yield (S := fun _ => True) (v := .bool true) (Or.inl ⟨by rfl, fun w' hw' => by (go_simp; try omega)⟩) trivial ?_
      simp only [AP]
      refine wpSeq_yield (S := fun _ => True) (yieldsIf_move rfl _ rfl (.bool true) rfl) trivial ?_
      simp only [AP]
      refine wpSeq_yield (S := fun _ => True) (v := .pointer (some ⟨W.heap.size, 2, none⟩)) (Or.inl ⟨by rfl, fun w' hw' => by go_simp⟩) trivial ?_
      simp only [AP]
      refine wpSeq_yield (S := fun w' => w' = W2) (v := .slice p2 n c2) (Or.inl ⟨by rfl, fun w' hw' => by (rw [hw']; go_simp)⟩) rfl ?_
      simp only [AP]
      refine wpSeq_yield (S := fun _ => True) (v := .int .i64 (n : Int)) (Or.inl ⟨by rfl, fun w' hw' => by go_simp⟩) trivial ?_
      simp only [AP]
      refine wpSeq_yield (S := fun _ => True) (v := .bool false) (Or.inl ⟨by rfl, fun w' hw' => by (go_simp; try omega)⟩) trivial ?_
      simp only [AP]
      refine wpSeq_yield (S := fun _ => True) (yieldsIf_pick rfl _ _ _ rfl true rfl (.bool false) rfl) trivial ?_
      simp only [AP]
      refine wpSeq_yield (S := fun _ => True) (yieldsIf_pick rfl _ _ _ rfl false rfl (.bool false) rfl) trivial ?_
      simp only [AP]
      refine wpSeq_yield (S := fun _ => True) (yieldsIf_move rfl _ rfl (.bool false) rfl) trivial ?_
      simp only [AP]
      refine wpSeq_yield (S := fun _ => True) (yieldsIf_move rfl _ rfl (.int .i64 k) rfl) trivial ?_
      simp only [AP]
      refine wpSeq_yield (S := fun _ => True) (v := .bool false) (Or.inl ⟨by rfl, fun w' hw' => by (go_simp; try omega)⟩) trivial ?_
      simp only [AP]
      refine wpSeq_yield (S := fun _ => True) (yieldsIf_pick rfl _ _ _ rfl false rfl (.bool false) rfl) trivial ?_
      simp only [AP]
      refine wpSeq_yield (S := fun _ => True) (yieldsIf_move rfl _ rfl (.bool false) rfl) trivial ?_
      simp only [AP]
      refine wpSeq_yield (S := fun _ => True) (yieldsIf_move rfl _ rfl (.int .i64 k) rfl) trivial ?_
      simp only [AP]
      refine wpSeq_yield (S := fun _ => True) (v := .bool false) (Or.inl ⟨by rfl, fun w' hw' => by (go_simp; try omega)⟩) trivial ?_
      simp only [AP]
      refine wpSeq_yield (S := fun _ => True) (yieldsIf_pick rfl _ _ _ rfl false rfl (.bool false) rfl) trivial ?_
      simp only [AP]
      refine wpSeq_yield (S := fun _ => True) (yieldsIf_move rfl _ rfl (.bool false) rfl) trivial ?_
      simp only [AP]
      refine wpSeq_yield (S := fun _ => True) (yieldsIf_move rfl _ rfl (.int .i64 z) rfl) trivial ?_
      simp only [AP]
      refine wpSeq_yield (S := fun _ => True) (v := .bool true) (Or.inl ⟨by rfl, fun w' hw' => by (go_simp; try omega)⟩) trivial ?_
      simp only [AP]
      refine wpSeq_yield (S := fun _ => True) (yieldsIf_pick rfl _ _ _ rfl false rfl (.bool true) rfl) trivial ?_
      simp only [AP]
      refine wpSeq_yield (S := fun _ => True) (yieldsIf_move rfl _ rfl (.bool true) rfl) trivial ?_
      simp only [AP]
      refine wpSeq_yield (S := fun _ => True) (yieldsIf_off rfl) trivial ?_
      simp only [AP]
      refine wpSeq_yield (S := fun _ => True) (yieldsIf_off rfl) trivial ?_
      simp only [AP]
      refine wpSeq_yield (S := fun _ => True) (yieldsIf_pick rfl _ _ _ rfl true rfl (.bool true) rfl) trivial ?_
      simp only [AP]
      refine wpSeq_nil ?_
      refine aK _ _ ?_
      clear aK
      go_upto_region 2 with fail
      rename_i aK
      refine wp_region_seq ?_
      refine wpSeq_yield (S := fun _ => True) (yieldsIf_assign rfl _ rfl (.slice none 0 0) rfl) trivial ?_
      simp only [AP]
      refine wpSeq_yield (S := fun _ => True) (yieldsIf_assign rfl _ rfl (.int .i64 2) rfl) trivial ?_
      simp only [AP]
      refine wpSeq_nil ?_
      refine aK _ _ ?_
      clear aK
      go_wp2
      refine bodyPost_ret (results_tmp2 rfl _ _ _) rfl ?_
      exact ⟨_, rfl, OwL.nil _ _, b.out⟩
    have r8 : 1200 < z := by omega
    clear hb
    go_upto_region 1 with fail
    rename_i aK
    refine wp_region_seq ?_
    refine wpSeq_yield (S := fun _ => True) (v := .pointer (some ⟨W.heap.size, 0, none⟩)) (Or.inl ⟨by rfl, fun w' hw' => by go_simp⟩) trivial ?_
    simp only [AP]
    refine wpSeq_yield (S := fun w' => w' = W2) (v := .int .i64 sp) (Or.inl ⟨by rfl, fun w' hw' => by (rw [hw']; go_simp)⟩) rfl ?_
    simp only [AP]
    refine wpSeq_yield (S := fun _ => True) (v := .bool false) (Or.inl ⟨by rfl, fun w' hw' => by (go_simp; try omega)⟩) trivial ?_
    simp only [AP]
    refine wpSeq_yield (S := fun _ => True) (yieldsIf_move rfl _ rfl (.bool false) rfl) trivial ?_
    simp only [AP]
    refine wpSeq_yield (S := fun _ => True) (v := .pointer (some ⟨W.heap.size, 0, none⟩)) (Or.inl ⟨by rfl, fun w' hw' => by go_simp⟩) trivial ?_
    simp only [AP]
    refine wpSeq_yield (S := fun w' => w' = W2) (v := .int .i64 sp) (Or.inl ⟨by rfl, fun w' hw' => by (rw [hw']; go_simp)⟩) rfl ?_
    simp only [AP]
    refine wpSeq_yield (S := fun _ => True) (v := .bool false) (Or.inl ⟨by rfl, fun w' hw' => by (go_simp; try omega)⟩) trivial ?_
    simp only [AP]
    refine wpSeq_yield (S := fun _ => True) (yieldsIf_pick rfl _ _ _ rfl false rfl (.bool false) rfl) trivial ?_
    simp only [AP]
    refine wpSeq_yield (S := fun _ => True) (yieldsIf_move rfl _ rfl (.bool false) rfl) trivial ?_
    simp only [AP]
    refine wpSeq_yield (S := fun _ => True) (v := .pointer (some ⟨W.heap.size, 1, none⟩)) (Or.inl ⟨by rfl, fun w' hw' => by go_simp⟩) trivial ?_
    simp only [AP]
    refine wpSeq_yield (S := fun w' => w' = W2) (v := .slice p1 m c1) (Or.inl ⟨by rfl, fun w' hw' => by (rw [hw']; go_simp)⟩) rfl ?_
    simp only [AP]
    refine wpSeq_yield (S := fun _ => True) (v := .int .i64 (m : Int)) (Or.inl ⟨by rfl, fun w' hw' => by go_simp⟩) trivial ?_
    simp only [AP]
    refine wpSeq_yield (S := fun _ => True) (v := .bool false) (Or.inl ⟨by rfl, fun w' hw' => by (go_simp; try omega)⟩) trivial ?_
    simp only [AP]
    refine wpSeq_yield (S := fun _ => True) (yieldsIf_pick rfl _ _ _ rfl false rfl (.bool false) rfl) trivial ?_
    simp only [AP]
    refine wpSeq_yield (S := fun _ => True) (yieldsIf_move rfl _ rfl (.bool false) rfl) trivial ?_
    simp only [AP]
    refine wpSeq_yield (S := fun _ => True) (v := .pointer (some ⟨W.heap.size, 0, none⟩)) (Or.inl ⟨by rfl, fun w' hw' => by go_simp⟩) trivial ?_
    simp only [AP]
    refine wpSeq_yield (S := fun w' => w' = W2) (v := .int .i64 sp) (Or.inl ⟨by rfl, fun w' hw' => by (rw [hw']; go_simp)⟩) rfl ?_
    simp only [AP]
    refine wpSeq_yield (S := fun _ => True) (v := .bool true) (Or.inl ⟨by rfl, fun w' hw' => by (go_simp; try omega)⟩) trivial ?_
    simp only [AP]
    refine wpSeq_yield (S := fun _ => True) (yieldsIf_move rfl _ rfl (.bool true) rfl) trivial ?_
    simp only [AP]
    refine wpSeq_yield (S := fun _ => True) (v := .pointer (some ⟨W.heap.size, 2, none⟩)) (Or.inl ⟨by rfl, fun w' hw' => by go_simp⟩) trivial ?_
    simp only [AP]
    refine wpSeq_yield (S := fun w' => w' = W2) (v := .slice p2 n c2) (Or.inl ⟨by rfl, fun w' hw' => by (rw [hw']; go_simp)⟩) rfl ?_
    simp only [AP]
    refine wpSeq_yield (S := fun _ => True) (v := .int .i64 (n : Int)) (Or.inl ⟨by rfl, fun w' hw' => by go_simp⟩) trivial ?_
    simp only [AP]
    refine wpSeq_yield (S := fun _ => True) (v := .bool false) (Or.inl ⟨by rfl, fun w' hw' => by (go_simp; try omega)⟩) trivial ?_
    simp only [AP]
    refine wpSeq_yield (S := fun _ => True) (yieldsIf_pick rfl _ _ _ rfl true rfl (.bool false) rfl) trivial ?_
    simp only [AP]
    refine wpSeq_yield (S := fun _ => True) (yieldsIf_pick rfl _ _ _ rfl false rfl (.bool false) rfl) trivial ?_
    simp only [AP]
    refine wpSeq_yield (S := fun _ => True) (yieldsIf_move rfl _ rfl (.bool false) rfl) trivial ?_
    simp only [AP]
    refine wpSeq_yield (S := fun _ => True) (yieldsIf_move rfl _ rfl (.int .i64 k) rfl) trivial ?_
    simp only [AP]
    refine wpSeq_yield (S := fun _ => True) (v := .bool false) (Or.inl ⟨by rfl, fun w' hw' => by (go_simp; try omega)⟩) trivial ?_
    simp only [AP]
    refine wpSeq_yield (S := fun _ => True) (yieldsIf_pick rfl _ _ _ rfl false rfl (.bool false) rfl) trivial ?_
    simp only [AP]
    refine wpSeq_yield (S := fun _ => True) (yieldsIf_move rfl _ rfl (.bool false) rfl) trivial ?_
    simp only [AP]
    refine wpSeq_yield (S := fun _ => True) (yieldsIf_move rfl _ rfl (.int .i64 k) rfl) trivial ?_
    simp only [AP]
    refine wpSeq_yield (S := fun _ => True) (v := .bool false) (Or.inl ⟨by rfl, fun w' hw' => by (go_simp; try omega)⟩) trivial ?_
    simp only [AP]
    refine wpSeq_yield (S := fun _ => True) (yieldsIf_pick rfl _ _ _ rfl false rfl (.bool false) rfl) trivial ?_
    simp only [AP]
    refine wpSeq_yield (S := fun _ => True) (yieldsIf_move rfl _ rfl (.bool false) rfl) trivial ?_
    simp only [AP]
    refine wpSeq_yield (S := fun _ => True) (yieldsIf_move rfl _ rfl (.int .i64 z) rfl) trivial ?_
    simp only [AP]
    refine wpSeq_yield (S := fun _ => True) (v := .bool false) (Or.inl ⟨by rfl, fun w' hw' => by (go_simp; try omega)⟩) trivial ?_
    simp only [AP]
    refine wpSeq_yield (S := fun _ => True) (yieldsIf_pick rfl _ _ _ rfl false rfl (.bool false) rfl) trivial ?_
    simp only [AP]
    refine wpSeq_yield (S := fun _ => True) (yieldsIf_move rfl _ rfl (.bool false) rfl) trivial ?_
    simp only [AP]
    refine wpSeq_yield (S := fun _ => True) (yieldsIf_move rfl _ rfl (.int .i64 z) rfl) trivial ?_
    simp only [AP]
    refine wpSeq_yield (S := fun _ => True) (v := .bool true) (Or.inl ⟨by rfl, fun w' hw' => by (go_simp; try omega)⟩) trivial ?_
    simp only [AP]
    refine wpSeq_yield (S := fun _ => True) (yieldsIf_pick rfl _ _ _ rfl false rfl (.bool true) rfl) trivial ?_
    simp only [AP]
    refine wpSeq_nil ?_
    refine aK _ _ ?_
    clear aK
    go_upto_region 2 with fail
    rename_i aK
    refine wp_region_seq ?_
    refine wpSeq_yield (S := fun _ => True) (yieldsIf_assign rfl _ rfl (.slice none 0 0) rfl) trivial ?_
    simp only [AP]
    refine wpSeq_yield (S := fun _ => True) (yieldsIf_assign rfl _ rfl (.int .i64 2) rfl) trivial ?_
    simp only [AP]
    refine wpSeq_nil ?_
    refine aK _ _ ?_
    clear aK
    go_wp2
    refine bodyPost_ret (results_tmp2 rfl _ _ _) rfl ?_
    exact ⟨_, rfl, OwL.nil _ _, b.out⟩
  by_cases r5 : k < 1
  · skip
    clear hb
    go_upto_region 1 with fail
    rename_i aK
    refine wp_region_seq ?_
    refine wpSeq_yield (S := fun _ => True) (v := .pointer (some ⟨W.heap.size, 0, none⟩)) (Or.inl ⟨by rfl, fun w' hw' => by go_simp⟩) trivial ?_
    simp only [AP]
    refine wpSeq_yield (S := fun w' => w' = W2) (v := .int .i64 sp) (Or.inl ⟨by rfl, fun w' hw' => by (rw [hw']; go_simp)⟩) rfl ?_
    simp only [AP]
    refine wpSeq_yield (S := fun _ => True) (v := .bool false) (Or.inl ⟨by rfl, fun w' hw' => by (go_simp; try omega)⟩) trivial ?_
    simp only [AP]
    refine wpSeq_yield (S := fun _ => True) (yieldsIf_move rfl _ rfl (.bool false) rfl) trivial ?_
    simp only [AP]
    refine wpSeq_yield (S := fun _ => True) (v := .pointer (some ⟨W.heap.size, 0, none⟩)) (Or.inl ⟨by rfl, fun w' hw' => by go_simp⟩) trivial ?_
    simp only [AP]
    refine wpSeq_yield (S := fun w' => w' = W2) (v := .int .i64 sp) (Or.inl ⟨by rfl, fun w' hw' => by (rw [hw']; go_simp)⟩) rfl ?_
    simp only [AP]
    refine wpSeq_yield (S := fun _ => True) (v := .bool false) (Or.inl ⟨by rfl, fun w' hw' => by (go_simp; try omega)⟩) trivial ?_
    simp only [AP]
    refine wpSeq_yield (S := fun _ => True) (yieldsIf_pick rfl _ _ _ rfl false rfl (.bool false) rfl) trivial ?_
    simp only [AP]
    refine wpSeq_yield (S := fun _ => True) (yieldsIf_move rfl _ rfl (.bool false) rfl) trivial ?_
    simp only [AP]
    refine wpSeq_yield (S := fun _ => True) (v := .pointer (some ⟨W.heap.size, 1, none⟩)) (Or.inl ⟨by rfl, fun w' hw' => by go_simp⟩) trivial ?_
    simp only [AP]
    refine wpSeq_yield (S := fun w' => w' = W2) (v := .slice p1 m c1) (Or.inl ⟨by rfl, fun w' hw' => by (rw [hw']; go_simp)⟩) rfl ?_
    simp only [AP]
    refine wpSeq_yield (S := fun _ => True) (v := .int .i64 (m : Int)) (Or.inl ⟨by rfl, fun w' hw' => by go_simp⟩) trivial ?_
    simp only [AP]
    refine wpSeq_yield (S := fun _ => True) (v := .bool false) (Or.inl ⟨by rfl, fun w' hw' => by (go_simp; try omega)⟩) trivial ?_
    simp only [AP]
    refine wpSeq_yield (S := fun _ => True) (yieldsIf_pick rfl _ _ _ rfl false rfl (.bool false) rfl) trivial ?_
    simp only [AP]
    refine wpSeq_yield (S := fun _ => True) (yieldsIf_move rfl _ rfl (.bool false) rfl) trivial ?_
    simp only [AP]
    refine wpSeq_yield (S := fun _ => True) (v := .pointer (some ⟨W.heap.size, 0, none⟩)) (Or.inl ⟨by rfl, fun w' hw' => by go_simp⟩) trivial ?_
    simp only [AP]
    refine wpSeq_yield (S := fun w' => w' = W2) (v := .int .i64 sp) (Or.inl ⟨by rfl, fun w' hw' => by (rw [hw']; go_simp)⟩) rfl ?_
    simp only [AP]
    refine wpSeq_yield (S := fun _ => True) (v := .bool false) (Or.inl ⟨by rfl, fun w' hw' => by (go_simp; try omega)⟩) trivial ?_
    simp only [AP]
    refine wpSeq_yield (S := fun _ => True) (yieldsIf_move rfl _ rfl (.bool false) rfl) trivial ?_
    simp only [AP]
    refine wpSeq_yield (S := fun _ => True) (yieldsIf_off rfl) trivial ?_
    simp only [AP]
    refine wpSeq_yield (S := fun _ => True) (yieldsIf_off rfl) trivial ?_
    simp only [AP]
    refine wpSeq_yield (S := fun _ => True) (yieldsIf_off rfl) trivial ?_
    simp only [AP]
    refine wpSeq_yield (S := fun _ => True) (yieldsIf_off rfl) trivial ?_
    simp only [AP]
    refine wpSeq_yield (S := fun _ => True) (yieldsIf_pick rfl _ _ _ rfl false rfl (.bool false) rfl) trivial ?_
    simp only [AP]
    refine wpSeq_yield (S := fun _ => True) (yieldsIf_pick rfl _ _ _ rfl false rfl (.bool false) rfl) trivial ?_
    simp only [AP]
    refine wpSeq_yield (S := fun _ => True) (yieldsIf_move rfl _ rfl (.bool false) rfl) trivial ?_
    simp only [AP]
    refine wpSeq_yield (S := fun _ => True) (yieldsIf_move rfl _ rfl (.int .i64 k) rfl) trivial ?_
    simp only [AP]
    refine wpSeq_yield (S := fun _ => True) (v := .bool true) (Or.inl ⟨by rfl, fun w' hw' => by (go_simp; try omega)⟩) trivial ?_
    simp only [AP]
    refine wpSeq_yield (S := fun _ => True) (yieldsIf_pick rfl _ _ _ rfl false rfl (.bool true) rfl) trivial ?_
    simp only [AP]
    refine wpSeq_yield (S := fun _ => True) (yieldsIf_move rfl _ rfl (.bool true) rfl) trivial ?_
    simp only [AP]
    refine wpSeq_yield (S := fun _ => True) (yieldsIf_off rfl) trivial ?_
    simp only [AP]
    refine wpSeq_yield (S := fun _ => True) (yieldsIf_off rfl) trivial ?_
    simp only [AP]
    refine wpSeq_yield (S := fun _ => True) (yieldsIf_pick rfl _ _ _ rfl true rfl (.bool true) rfl) trivial ?_
    simp only [AP]
    refine wpSeq_yield (S := fun _ => True) (yieldsIf_move rfl _ rfl (.bool true) rfl) trivial ?_
    simp only [AP]
    refine wpSeq_yield (S := fun _ => True) (yieldsIf_off rfl) trivial ?_
    simp only [AP]
    refine wpSeq_yield (S := fun _ => True) (yieldsIf_off rfl) trivial ?_
    simp only [AP]
    refine wpSeq_yield (S := fun _ => True) (yieldsIf_pick rfl _ _ _ rfl true rfl (.bool true) rfl) trivial ?_
    simp only [AP]
    refine wpSeq_yield (S := fun _ => True) (yieldsIf_move rfl _ rfl (.bool true) rfl) trivial ?_
    simp only [AP]
    refine wpSeq_yield (S := fun _ => True) (yieldsIf_off rfl) trivial ?_
    simp only [AP]
    refine wpSeq_yield (S := fun _ => True) (yieldsIf_off rfl) trivial ?_
    simp only [AP]
    refine wpSeq_yield (S := fun _ => True) (yieldsIf_pick rfl _ _ _ rfl true rfl (.bool true) rfl) trivial ?_
    simp only [AP]
    refine wpSeq_nil ?_
    refine aK _ _ ?_
    clear aK
    go_upto_region 2 with fail
    rename_i aK
    refine wp_region_seq ?_
    refine wpSeq_yield (S := fun _ => True) (yieldsIf_assign rfl _ rfl (.slice none 0 0) rfl) trivial ?_
    simp only [AP]
    refine wpSeq_yield (S := fun _ => True) (yieldsIf_assign rfl _ rfl (.int .i64 2) rfl) trivial ?_
    simp only [AP]
    refine wpSeq_nil ?_
    refine aK _ _ ?_
    clear aK
    go_wp2
    refine bodyPost_ret (results_tmp2 rfl _ _ _) rfl ?_
    exact ⟨_, rfl, OwL.nil _ _, b.out⟩
  by_cases r6 : 4 < k
  · skip
    clear hb
    go_upto_region 1 with fail
    rename_i aK
    refine wp_region_seq ?_
    refine wpSeq_yield (S := fun _ => True) (v := .pointer (some ⟨W.heap.size, 0, none⟩)) (Or.inl ⟨by rfl, fun w' hw' => by go_simp⟩) trivial ?_
    simp only [AP]
    refine wpSeq_yield (S := fun w' => w' = W2) (v := .int .i64 sp) (Or.inl ⟨by rfl, fun w' hw' => by (rw [hw']; go_simp)⟩) rfl ?_
    simp only [AP]
    refine wpSeq_yield (S := fun _ => True) (v := .bool false) (Or.inl ⟨by rfl, fun w' hw' => by (go_simp; try omega)⟩) trivial ?_
    simp only [AP]
    refine wpSeq_yield (S := fun _ => True) (yieldsIf_move rfl _ rfl (.bool false) rfl) trivial ?_
    simp only [AP]
    refine wpSeq_yield (S := fun _ => True) (v := .pointer (some ⟨W.heap.size, 0, none⟩)) (Or.inl ⟨by rfl, fun w' hw' => by go_simp⟩) trivial ?_
    simp only [AP]
    refine wpSeq_yield (S := fun w' => w' = W2) (v := .int .i64 sp) (Or.inl ⟨by rfl, fun w' hw' => by (rw [hw']; go_simp)⟩) rfl ?_
    simp only [AP]
    refine wpSeq_yield (S := fun _ => True) (v := .bool false) (Or.inl ⟨by rfl, fun w' hw' => by (go_simp; try omega)⟩) trivial ?_
    simp only [AP]
    refine wpSeq_yield (S := fun _ => True) (yieldsIf_pick rfl _ _ _ rfl false rfl (.bool false) rfl) trivial ?_
    simp only [AP]
    refine wpSeq_yield (S := fun _ => True) (yieldsIf_move rfl _ rfl (.bool false) rfl) trivial ?_
    simp only [AP]
    refine wpSeq_yield (S := fun _ => True) (v := .pointer (some ⟨W.heap.size, 1, none⟩)) (Or.inl ⟨by rfl, fun w' hw' => by go_simp⟩) trivial ?_
    simp only [AP]
    refine wpSeq_yield (S := fun w' => w' = W2) (v := .slice p1 m c1) (Or.inl ⟨by rfl, fun w' hw' => by (rw [hw']; go_simp)⟩) rfl ?_
    simp only [AP]
    refine wpSeq_yield (S := fun _ => True) (v := .int .i64 (m : Int)) (Or.inl ⟨by rfl, fun w' hw' => by go_simp⟩) trivial ?_
    simp only [AP]
    refine wpSeq_yield (S := fun _ => True) (v := .bool false) (Or.inl ⟨by rfl, fun w' hw' => by (go_simp; try omega)⟩) trivial ?_
    simp only [AP]
    refine wpSeq_yield (S := fun _ => True) (yieldsIf_pick rfl _ _ _ rfl false rfl (.bool false) rfl) trivial ?_
    simp only [AP]
    refine wpSeq_yield (S := fun _ => True) (yieldsIf_move rfl _ rfl (.bool false) rfl) trivial ?_
    simp only [AP]
    refine wpSeq_yield (S := fun _ => True) (v := .pointer (some ⟨W.heap.size, 0, none⟩)) (Or.inl ⟨by rfl, fun w' hw' => by go_simp⟩) trivial ?_
    simp only [AP]
    refine wpSeq_yield (S := fun w' => w' = W2) (v := .int .i64 sp) (Or.inl ⟨by rfl, fun w' hw' => by (rw [hw']; go_simp)⟩) rfl ?_
    simp only [AP]
    refine wpSeq_yield (S := fun _ => True) (v := .bool false) (Or.inl ⟨by rfl, fun w' hw' => by (go_simp; try omega)⟩) trivial ?_
    simp only [AP]
    refine wpSeq_yield (S := fun _ => True) (yieldsIf_move rfl _ rfl (.bool false) rfl) trivial ?_
    simp only [AP]
    refine wpSeq_yield (S := fun _ => True) (yieldsIf_off rfl) trivial ?_
    simp only [AP]
    refine wpSeq_yield (S := fun _ => True) (yieldsIf_off rfl) trivial ?_
    simp only [AP]
    refine wpSeq_yield (S := fun _ => True) (yieldsIf_off rfl) trivial ?_
    simp only [AP]
    refine wpSeq_yield (S := fun _ => True) (yieldsIf_off rfl) trivial ?_
    simp only [AP]
    refine wpSeq_yield (S := fun _ => True) (yieldsIf_pick rfl _ _ _ rfl false rfl (.bool false) rfl) trivial ?_
    simp only [AP]
    refine wpSeq_yield (S := fun _ => True) (yieldsIf_pick rfl _ _ _ rfl false rfl (.bool false) rfl) trivial ?_
    simp only [AP]
    refine wpSeq_yield (S := fun _ => True) (yieldsIf_move rfl _ rfl (.bool false) rfl) trivial ?_
    simp only [AP]
    refine wpSeq_yield (S := fun _ => True) (yieldsIf_move rfl _ rfl (.int .i64 k) rfl) trivial ?_
    simp only [AP]
    refine wpSeq_yield (S := fun _ => True) (v := .bool false) (Or.inl ⟨by rfl, fun w' hw' => by (go_simp; try omega)⟩) trivial ?_
    simp only [AP]
    refine wpSeq_yield (S := fun _ => True) (yieldsIf_pick rfl _ _ _ rfl false rfl (.bool false) rfl) trivial ?_
    simp only [AP]
    refine wpSeq_yield (S := fun _ => True) (yieldsIf_move rfl _ rfl (.bool false) rfl) trivial ?_
    simp only [AP]
    refine wpSeq_yield (S := fun _ => True) (yieldsIf_move rfl _ rfl (.int .i64 k) rfl) trivial ?_
    simp only [AP]
    refine wpSeq_yield (S := fun _ => True) (v := .bool true) (Or.inl ⟨by rfl, fun w' hw' => by (go_simp; try omega)⟩) trivial ?_
    simp only [AP]
    refine wpSeq_yield (S := fun _ => True) (yieldsIf_pick rfl _ _ _ rfl false rfl (.bool true) rfl) trivial ?_
    simp only [AP]
    refine wpSeq_yield (S := fun _ => True) (yieldsIf_move rfl _ rfl (.bool true) rfl) trivial ?_
    simp only [AP]
    refine wpSeq_yield (S := fun _ => True) (yieldsIf_off rfl) trivial ?_
    simp only [AP]
    refine wpSeq_yield (S := fun _ => True) (yieldsIf_off rfl) trivial ?_
    simp only [AP]
    refine wpSeq_yield (S := fun _ => True) (yieldsIf_pick rfl _ _ _ rfl true rfl (.bool true) rfl) trivial ?_
    simp only [AP]
    refine wpSeq_yield (S := fun _ => True) (yieldsIf_move rfl _ rfl (.bool true) rfl) trivial ?_
    simp only [AP]
    refine wpSeq_yield (S := fun _ => True) (yieldsIf_off rfl) trivial ?_
    simp only [AP]
    refine wpSeq_yield (S := fun _ => True) (yieldsIf_off rfl) trivial ?_
    simp only [AP]
    refine wpSeq_yield (S := fun _ => True) (yieldsIf_pick rfl _ _ _ rfl true rfl (.bool true) rfl) trivial ?_
    simp only [AP]
    refine wpSeq_nil ?_
    refine aK _ _ ?_
    clear aK
    go_upto_region 2 with fail
    rename_i aK
    refine wp_region_seq ?_
    refine wpSeq_yield (S := fun _ => True) (yieldsIf_assign rfl _ rfl (.slice none 0 0) rfl) trivial ?_
    simp only [AP]
    refine wpSeq_yield (S := fun _ => True) (yieldsIf_assign rfl _ rfl (.int .i64 2) rfl) trivial ?_
    simp only [AP]
    refine wpSeq_nil ?_
    refine aK _ _ ?_
    clear aK
    go_wp2
    refine bodyPost_ret (results_tmp2 rfl _ _ _) rfl ?_
    exact ⟨_, rfl, OwL.nil _ _, b.out⟩
  by_cases r7 : z < 0
  · skip
    clear hb
    go_upto_region 1 with fail
    rename_i aK
    refine wp_region_seq ?_
    refine wpSeq_yield (S := fun _ => True) (v := .pointer (some ⟨W.heap.size, 0, none⟩)) (Or.inl ⟨by rfl, fun w' hw' => by go_simp⟩) trivial ?_
    simp only [AP]
    refine wpSeq_yield (S := fun w' => w' = W2) (v := .int .i64 sp) (Or.inl ⟨by rfl, fun w' hw' => by (rw [hw']; go_simp)⟩) rfl ?_
    simp only [AP]
    refine wpSeq_yield (S := fun _ => True) (v := .bool false) (Or.inl ⟨by rfl, fun w' hw' => by (go_simp; try omega)⟩) trivial ?_
    simp only [AP]
    refine wpSeq_yield (S := fun _ => True) (yieldsIf_move rfl _ rfl (.bool false) rfl) trivial ?_
    simp only [AP]
    refine wpSeq_yield (S := fun _ => True) (v := .pointer (some ⟨W.heap.size, 0, none⟩)) (Or.inl ⟨by rfl, fun w' hw' => by go_simp⟩) trivial ?_
    simp only [AP]
    refine wpSeq_yield (S := fun w' => w' = W2) (v := .int .i64 sp) (Or.inl ⟨by rfl, fun w' hw' => by (rw [hw']; go_simp)⟩) rfl ?_
    simp only [AP]
    refine wpSeq_yield (S := fun _ => True) (v := .bool false) (Or.inl ⟨by rfl, fun w' hw' => by (go_simp; try omega)⟩) trivial ?_
    simp only [AP]
    refine wpSeq_yield (S := fun _ => True) (yieldsIf_pick rfl _ _ _ rfl false rfl (.bool false) rfl) trivial ?_
    simp only [AP]
    refine wpSeq_yield (S := fun _ => True) (yieldsIf_move rfl _ rfl (.bool false) rfl) trivial ?_
    simp only [AP]
    refine wpSeq_yield (S := fun _ => True) (v := .pointer (some ⟨W.heap.size, 1, none⟩)) (Or.inl ⟨by rfl, fun w' hw' => by go_simp⟩) trivial ?_
    simp only [AP]
    refine wpSeq_yield (S := fun w' => w' = W2) (v := .slice p1 m c1) (Or.inl ⟨by rfl, fun w' hw' => by (rw [hw']; go_simp)⟩) rfl ?_
    simp only [AP]
    refine wpSeq_yield (S := fun _ => True) (v := .int .i64 (m : Int)) (Or.inl ⟨by rfl, fun w' hw' => by go_simp⟩) trivial ?_
    simp only [AP]
    refine wpSeq_yield (S := fun _ => True) (v := .bool false) (Or.inl ⟨by rfl, fun w' hw' => by (go_simp; try omega)⟩) trivial ?_
    simp only [AP]
    refine wpSeq_yield (S := fun _ => True) (yieldsIf_pick rfl _ _ _ rfl false rfl (.bool false) rfl) trivial ?_
    simp only [AP]
    refine wpSeq_yield (S := fun _ => True) (yieldsIf_move rfl _ rfl (.bool false) rfl) trivial ?_
    simp only [AP]
    refine wpSeq_yield (S := fun _ => True) (v := .pointer (some ⟨W.heap.size, 0, none⟩)) (Or.inl ⟨by rfl, fun w' hw' => by go_simp⟩) trivial ?_
    simp only [AP]
    refine wpSeq_yield (S := fun w' => w' = W2) (v := .int .i64 sp) (Or.inl ⟨by rfl, fun w' hw' => by (rw [hw']; go_simp)⟩) rfl ?_
    simp only [AP]
    refine wpSeq_yield (S := fun _ => True) (v := .bool false) (Or.inl ⟨by rfl, fun w' hw' => by (go_simp; try omega)⟩) trivial ?_
    simp only [AP]
    refine wpSeq_yield (S := fun _ => True) (yieldsIf_move rfl _ rfl (.bool false) rfl) trivial ?_
    simp only [AP]
    refine wpSeq_yield (S := fun _ => True) (yieldsIf_off rfl) trivial ?_
    simp only [AP]
    refine wpSeq_yield (S := fun _ => True) (yieldsIf_off rfl) trivial ?_
    simp only [AP]
    refine wpSeq_yield (S := fun _ => True) (yieldsIf_off rfl) trivial ?_
    simp only [AP]
    refine wpSeq_yield (S := fun _ => True) (yieldsIf_off rfl) trivial ?_
    simp only [AP]
    refine wpSeq_yield (S := fun _ => True) (yieldsIf_pick rfl _ _ _ rfl false rfl (.bool false) rfl) trivial ?_
    simp only [AP]
    refine wpSeq_yield (S := fun _ => True) (yieldsIf_pick rfl _ _ _ rfl false rfl (.bool false) rfl) trivial ?_
    simp only [AP]
    refine wpSeq_yield (S := fun _ => True) (yieldsIf_move rfl _ rfl (.bool false) rfl) trivial ?_
    simp only [AP]
    refine wpSeq_yield (S := fun _ => True) (yieldsIf_move rfl _ rfl (.int .i64 k) rfl) trivial ?_
    simp only [AP]
    refine wpSeq_yield (S := fun _ => True) (v := .bool false) (Or.inl ⟨by rfl, fun w' hw' => by (go_simp; try omega)⟩) trivial ?_
    simp only [AP]
    refine wpSeq_yield (S := fun _ => True) (yieldsIf_pick rfl _ _ _ rfl false rfl (.bool false) rfl) trivial ?_
    simp only [AP]
    refine wpSeq_yield (S := fun _ => True) (yieldsIf_move rfl _ rfl (.bool false) rfl) trivial ?_
    simp only [AP]
    refine wpSeq_yield (S := fun _ => True) (yieldsIf_move rfl _ rfl (.int .i64 k) rfl) trivial ?_
    simp only [AP]
    refine wpSeq_yield (S := fun _ => True) (v := .bool false) (Or.inl ⟨by rfl, fun w' hw' => by (go_simp; try omega)⟩) trivial ?_
    simp only [AP]
    refine wpSeq_yield (S := fun _ => True) (yieldsIf_pick rfl _ _ _ rfl false rfl (.bool false) rfl) trivial ?_
    simp only [AP]
    refine wpSeq_yield (S := fun _ => True) (yieldsIf_move rfl _ rfl (.bool false) rfl) trivial ?_
    simp only [AP]
    refine wpSeq_yield (S := fun _ => True) (yieldsIf_move rfl _ rfl (.int .i64 z) rfl) trivial ?_
    simp only [AP]
    refine wpSeq_yield (S := fun _ => True) (v := .bool true) (Or.inl ⟨by rfl, fun w' hw' => by (go_simp; try omega)⟩) trivial ?_
    simp only [AP]
    refine wpSeq_yield (S := fun _ => True) (yieldsIf_pick rfl _ _ _ rfl false rfl (.bool true) rfl) trivial ?_
    simp only [AP]
    refine wpSeq_yield (S := fun _ => True) (yieldsIf_move rfl _ rfl (.bool true) rfl) trivial ?_
    simp only [AP]
    refine wpSeq_yield (S := fun _ => True) (yieldsIf_off rfl) trivial ?_
    simp only [AP]
    refine wpSeq_yield (S := fun _ => True) (yieldsIf_off rfl) trivial ?_
    simp only [AP]
    refine wpSeq_yield (S := fun _ => True) (yieldsIf_pick rfl _ _ _ rfl true rfl (.bool true) rfl) trivial ?_
    simp only [AP]
    refine wpSeq_nil ?_
    refine aK _ _ ?_
    clear aK
    go_upto_region 2 with fail
    rename_i aK
    refine wp_region_seq ?_
    refine wpSeq_yield (S := fun _ => True) (yieldsIf_assign rfl _ rfl (.slice none 0 0) rfl) trivial ?_
    simp only [AP]
    refine wpSeq_yield (S := fun _ => True) (yieldsIf_assign rfl _ rfl (.int .i64 2) rfl) trivial ?_
    simp only [AP]
    refine wpSeq_nil ?_
    refine aK _ _ ?_
    clear aK
    go_wp2
    refine bodyPost_ret (results_tmp2 rfl _ _ _) rfl ?_
    exact ⟨_, rfl, OwL.nil _ _, b.out⟩
  have r8 : 1200 < z := by omega
  clear hb
  go_upto_region 1 with fail
  rename_i aK
  refine wp_region_seq ?_
  refine wpSeq_yield (S := fun _ => True) (v := .pointer (some ⟨W.heap.size, 0, none⟩)) (Or.inl ⟨by rfl, fun w' hw' => by go_simp⟩) trivial ?_
  simp only [AP]
  refine wpSeq_yield (S := fun w' => w' = W2) (v := .int .i64 sp) (Or.inl ⟨by rfl, fun w' hw' => by (rw [hw']; go_simp)⟩) rfl ?_
  simp only [AP]
  refine wpSeq_yield (S := fun _ => True) (v := .bool false) (Or.inl ⟨by rfl, fun w' hw' => by (go_simp; try omega)⟩) trivial ?_
  simp only [AP]
  refine wpSeq_yield (S := fun _ => True) (yieldsIf_move rfl _ rfl (.bool false) rfl) trivial ?_
  simp only [AP]
  refine wpSeq_yield (S := fun _ => True) (v := .pointer (some ⟨W.heap.size, 0, none⟩)) (Or.inl ⟨by rfl, fun w' hw' => by go_simp⟩) trivial ?_
  simp only [AP]
  refine wpSeq_yield (S := fun w' => w' = W2) (v := .int .i64 sp) (Or.inl ⟨by rfl, fun w' hw' => by (rw [hw']; go_simp)⟩) rfl ?_
  simp only [AP]
  refine wpSeq_yield (S := fun _ => True) (v := .bool false) (Or.inl ⟨by rfl, fun w' hw' => by (go_simp; try omega)⟩) trivial ?_
  simp only [AP]
  refine wpSeq_yield (S := fun _ => True) (yieldsIf_pick rfl _ _ _ rfl false rfl (.bool false) rfl) trivial ?_
  simp only [AP]
  refine wpSeq_yield (S := fun _ => True) (yieldsIf_move rfl _ rfl (.bool false) rfl) trivial ?_
  simp only [AP]
  refine wpSeq_yield (S := fun _ => True) (v := .pointer (some ⟨W.heap.size, 1, none⟩)) (Or.inl ⟨by rfl, fun w' hw' => by go_simp⟩) trivial ?_
  simp only [AP]
  refine wpSeq_yield (S := fun w' => w' = W2) (v := .slice p1 m c1) (Or.inl ⟨by rfl, fun w' hw' => by (rw [hw']; go_simp)⟩) rfl ?_
  simp only [AP]
  refine wpSeq_yield (S := fun _ => True) (v := .int .i64 (m : Int)) (Or.inl ⟨by rfl, fun w' hw' => by go_simp⟩) trivial ?_
  simp only [AP]
  refine wpSeq_yield (S := fun _ => True) (v := .bool false) (Or.inl ⟨by rfl, fun w' hw' => by (go_simp; try omega)⟩) trivial ?_
  simp only [AP]
  refine wpSeq_yield (S := fun _ => True) (yieldsIf_pick rfl _ _ _ rfl false rfl (.bool false) rfl) trivial ?_
  simp only [AP]
  refine wpSeq_yield (S := fun _ => True) (yieldsIf_move rfl _ rfl (.bool false) rfl) trivial ?_
  simp only [AP]
  refine wpSeq_yield (S := fun _ => True) (v := .pointer (some ⟨W.heap.size, 0, none⟩)) (Or.inl ⟨by rfl, fun w' hw' => by go_simp⟩) trivial ?_
  simp only [AP]
  refine wpSeq_yield (S := fun w' => w' = W2) (v := .int .i64 sp) (Or.inl ⟨by rfl, fun w' hw' => by (rw [hw']; go_simp)⟩) rfl ?_
  simp only [AP]
  refine wpSeq_yield (S := fun _ => True) (v := .bool false) (Or.inl ⟨by rfl, fun w' hw' => by (go_simp; try omega)⟩) trivial ?_
  simp only [AP]
  refine wpSeq_yield (S := fun _ => True) (yieldsIf_move rfl _ rfl (.bool false) rfl) trivial ?_
  simp only [AP]
  refine wpSeq_yield (S := fun _ => True) (yieldsIf_off rfl) trivial ?_
  simp only [AP]
  refine wpSeq_yield (S := fun _ => True) (yieldsIf_off rfl) trivial ?_
  simp only [AP]
  refine wpSeq_yield (S := fun _ => True) (yieldsIf_off rfl) trivial ?_
  simp only [AP]
  refine wpSeq_yield (S := fun _ => True) (yieldsIf_off rfl) trivial ?_
  simp only [AP]
  refine wpSeq_yield (S := fun _ => True) (yieldsIf_pick rfl _ _ _ rfl false rfl (.bool false) rfl) trivial ?_
  simp only [AP]
  refine wpSeq_yield (S := fun _ => True) (yieldsIf_pick rfl _ _ _ rfl false rfl (.bool false) rfl) trivial ?_
  simp only [AP]
  refine wpSeq_yield (S := fun _ => True) (yieldsIf_move rfl _ rfl (.bool false) rfl) trivial ?_
  simp only [AP]
  refine wpSeq_yield (S := fun _ => True) (yieldsIf_move rfl _ rfl (.int .i64 k) rfl) trivial ?_
  simp only [AP]
  refine wpSeq_yield (S := fun _ => True) (v := .bool false) (Or.inl ⟨by rfl, fun w' hw' => by (go_simp; try omega)⟩) trivial ?_
  simp only [AP]
  refine wpSeq_yield (S := fun _ => True) (yieldsIf_pick rfl _ _ _ rfl false rfl (.bool false) rfl) trivial ?_
  simp only [AP]
  refine wpSeq_yield (S := fun _ => True) (yieldsIf_move rfl _ rfl (.bool false) rfl) trivial ?_
  simp only [AP]
  refine wpSeq_yield (S := fun _ => True) (yieldsIf_move rfl _ rfl (.int .i64 k) rfl) trivial ?_
  simp only [AP]
  refine wpSeq_yield (S := fun _ => True) (v := .bool false) (Or.inl ⟨by rfl, fun w' hw' => by (go_simp; try omega)⟩) trivial ?_
  simp only [AP]
  refine wpSeq_yield (S := fun _ => True) (yieldsIf_pick rfl _ _ _ rfl false rfl (.bool false) rfl) trivial ?_
  simp only [AP]
  refine wpSeq_yield (S := fun _ => True) (yieldsIf_move rfl _ rfl (.bool false) rfl) trivial ?_
  simp only [AP]
  refine wpSeq_yield (S := fun _ => True) (yieldsIf_move rfl _ rfl (.int .i64 z) rfl) trivial ?_
  simp only [AP]
  refine wpSeq_yield (S := fun _ => True) (v := .bool false) (Or.inl ⟨by rfl, fun w' hw' => by (go_simp; try omega)⟩) trivial ?_
  simp only [AP]
  refine wpSeq_yield (S := fun _ => True) (yieldsIf_pick rfl _ _ _ rfl false rfl (.bool false) rfl) trivial ?_
  simp only [AP]
  refine wpSeq_yield (S := fun _ => True) (yieldsIf_move rfl _ rfl (.bool false) rfl) trivial ?_
  simp only [AP]
  refine wpSeq_yield (S := fun _ => True) (yieldsIf_move rfl _ rfl (.int .i64 z) rfl) trivial ?_
  simp only [AP]
  refine wpSeq_yield (S := fun _ => True) (v := .bool true) (Or.inl ⟨by rfl, fun w' hw' => by (go_simp; try omega)⟩) trivial ?_
  simp only [AP]
  refine wpSeq_yield (S := fun _ => True) (yieldsIf_pick rfl _ _ _ rfl false rfl (.bool true) rfl) trivial ?_
  simp only [AP]
  refine wpSeq_nil ?_
  refine aK _ _ ?_
  clear aK
  go_upto_region 2 with fail
  rename_i aK
  refine wp_region_seq ?_
  refine wpSeq_yield (S := fun _ => True) (yieldsIf_assign rfl _ rfl (.slice none 0 0) rfl) trivial ?_
  simp only [AP]
  refine wpSeq_yield (S := fun _ => True) (yieldsIf_assign rfl _ rfl (.int .i64 2) rfl) trivial ?_
  simp only [AP]
  refine wpSeq_nil ?_
  refine aK _ _ ?_
  clear aK
  go_wp2
  refine bodyPost_ret (results_tmp2 rfl _ _ _) rfl ?_
  exact ⟨_, rfl, OwL.nil _ _, b.out⟩
end Go.Proofs.YtpihgljdbpnehaaDoor
