/- A case in memory; whether it is too long (printed by gen13/nb.py). -/
import Derived.Test.YtpihgljdbpnehaaDoorLq0Zb
namespace Go.Proofs.YtpihgljdbpnehaaDoor
open Go.RowKit
/-- A case's cells: the secret's bytes, what stands behind them. -/
def csT (sp : Int) (vt vf : Value) (pn ac : Nat) (r : Bool) (vb : Value) : Array Value := #[.int .i64 sp, vt, vf, .int .u64 (pn : Int), .int .u64 (ac : Int), .bool r, vb]
def csA (s : List Nat) (t : Array Value) : Array Value := Iv .u8 (NI s) ++ t
theorem csA_size {s : List Nat} (ls : s.length = 32) (t : Array Value) : (csA s t).size = 32 + t.size := by
  unfold csA
  rw [Array.size_append, Iv_size, NI_length, ls]
theorem csA_get {s : List Nat} (ls : s.length = 32) (t : Array Value) (i : Nat) : (csA s t)[32 + i]? = t[i]? := by
  unfold csA
  have e : (Iv .u8 (NI s)).size = 32 := by rw [Iv_size, NI_length, ls]
  rw [Array.getElem?_append_right (by omega), e, Nat.add_sub_cancel_left]
theorem info_cs : (Tryd.prog.info? 40).map (·.size) = some 39 := by kernel_rfl
/-- What the cells of a case hold. -/
theorem cs_cells {w : World} {g : Nat} {s : List Nat} {a b c d e f h : Value} (K : Blk w g 40 (csA s #[a, b, c, d, e, f, h])) (ls : s.length = 32) :
    w.cell? ⟨g, 32, none⟩ = some a ∧ w.cell? ⟨g, 33, none⟩ = some b ∧ w.cell? ⟨g, 34, none⟩ = some c ∧ w.cell? ⟨g, 35, none⟩ = some d ∧ w.cell? ⟨g, 36, none⟩ = some e ∧ w.cell? ⟨g, 37, none⟩ = some f ∧ w.cell? ⟨g, 38, none⟩ = some h :=
  ⟨(K.cell 32).trans (csA_get ls _ 0), (K.cell 33).trans (csA_get ls _ 1), (K.cell 34).trans (csA_get ls _ 2), (K.cell 35).trans (csA_get ls _ 3), (K.cell 36).trans (csA_get ls _ 4), (K.cell 37).trans (csA_get ls _ 5), (K.cell 38).trans (csA_get ls _ 6)⟩
theorem csA_set {s : List Nat} (ls : s.length = 32) (t : Array Value) (i : Nat) (v : Value) : (csA s t).setIfInBounds (32 + i) v = csA s (t.setIfInBounds i v) := by
  unfold csA
  have e : (Iv .u8 (NI s)).size = 32 := by rw [Iv_size, NI_length, ls]
  rw [Array.setIfInBounds_append_right (by omega), e, Nat.add_sub_cancel_left]
set_option maxHeartbeats 4000000 in
set_option maxRecDepth 100000 in
/-- Whether a case is too long. -/
theorem clong_c (s to fr bb : List Nat) (sp : Int) (pn ac : Nat) (r : Bool) (vt vf vb : Value) (W : World) (ls : s.length = 32) (h1 : SB W vt to) (h2 : SB W vf fr) (h3 : SB W vb bb) :
    Calls Tryd.prog 14 #[.agg (csA s (csT sp vt vf pn ac r vb))] W fun e w' => e = .returned (.bool (decide (50 < to.length ∨ 50 < fr.length ∨ 120 < bb.length))) ∧ Below W.heap.size W w' := by
  obtain ⟨p1, c1, rfl⟩ := h1.shape
  obtain ⟨p2, c2, rfl⟩ := h2.shape
  obtain ⟨p3, c3, rfl⟩ := h3.shape
  obtain ⟨m, hm⟩ : ∃ m, to.length = m := ⟨_, rfl⟩
  obtain ⟨n, hn⟩ : ∃ n, fr.length = n := ⟨_, rfl⟩
  obtain ⟨k, hk⟩ : ∃ k, bb.length = k := ⟨_, rfl⟩
  rw [hm, hn, hk]
  clear hm hn hk h1 h2 h3
  obtain ⟨D, hD⟩ : ∃ D, decide (50 < m ∨ 50 < n ∨ 120 < k) = D := ⟨_, rfl⟩
  rw [hD]
  have HD := Lib.hid hD
  clear hD
  obtain ⟨CS, hCS⟩ : ∃ CS, csA s (csT sp (.slice p1 m c1) (.slice p2 n c2) pn ac r (.slice p3 k c3)) = CS := ⟨_, rfl⟩
  rw [hCS]
  have HC := Lib.hid hCS
  clear hCS
  go_enter Tryd.func14, Tryd.ntmps14
  go_upto_region 0 with fail
  rename_i aK
  refine wp_region_seq ?_
  refine wpSeq_wp rfl ?_
  unfold Oper.wp execOp
  go_simp
  refine wpSeq_yield (S := fun _ => True) (yieldsIf_assign rfl _ rfl (.bool false) rfl) trivial ?_
  simp only [AP]
  refine wpSeq_nil ?_
  refine aK _ _ ?_
  clear aK
  have K := Blk.new W 40 CS
  have b := (Below.refl W.heap.size W).alloc (Nat.le_refl _) (.cells CS 40)
  generalize World.alloc W _ = W2 at *
  rw [← HC.out] at K
  obtain ⟨-, y1, y2, -, -, -, y6⟩ := cs_cells K ls
  replace b := Lib.hid b
  clear K HC ls
  by_cases l1 : 50 < m
  · skip
    go_upto_region 1 with fail
    rename_i aK
    refine wp_region_seq ?_
    refine wpSeq_yield (S := fun _ => True) (v := .pointer (some ⟨W.heap.size, 33, none⟩)) (Or.inl ⟨by rfl, fun w' hw' => by go_simp⟩) trivial ?_
    simp only [AP]
    refine wpSeq_yield (S := fun w' => w' = W2) (v := .slice p1 m c1) (Or.inl ⟨by rfl, fun w' hw' => by (rw [hw']; go_simp)⟩) rfl ?_
    simp only [AP]
    refine wpSeq_yield (S := fun _ => True) (v := .int .i64 (m : Int)) (Or.inl ⟨by rfl, fun w' hw' => by go_simp⟩) trivial ?_
    simp only [AP]
    refine wpSeq_yield (S := fun _ => True) (v := .bool true) (Or.inl ⟨by rfl, fun w' hw' => by (go_simp; try omega)⟩) trivial ?_
    simp only [AP]
    refine wpSeq_yield (S := fun _ => True) (yieldsIf_move rfl _ rfl (.bool true) rfl) trivial ?_
    simp only [AP]
    refine wpSeq_yield (S := fun _ => True) (yieldsIf_off rfl) trivial ?_
    simp only [AP]
    refine wpSeq_yield (S := fun _ => True) (yieldsIf_off rfl) trivial ?_
    simp only [AP]
    refine wpSeq_yield (S := fun _ => True) (yieldsIf_off rfl) trivial ?_
    simp only [AP]
    refine wpSeq_yield (S := fun _ => True) (yieldsIf_off rfl) trivial ?_
    simp only [AP]
    refine wpSeq_yield (S := fun _ => True) (yieldsIf_pick rfl _ _ _ rfl true rfl (.bool true) rfl) trivial ?_
    simp only [AP]
    refine wpSeq_yield (S := fun _ => True) (yieldsIf_move rfl _ rfl (.bool true) rfl) trivial ?_
    simp only [AP]
    refine wpSeq_yield (S := fun _ => True) (yieldsIf_off rfl) trivial ?_
    simp only [AP]
    refine wpSeq_yield (S := fun _ => True) (yieldsIf_off rfl) trivial ?_
    simp only [AP]
    refine wpSeq_yield (S := fun _ => True) (yieldsIf_off rfl) trivial ?_
    simp only [AP]
    refine wpSeq_yield (S := fun _ => True) (yieldsIf_off rfl) trivial ?_
    simp only [AP]
    refine wpSeq_yield (S := fun _ => True) (yieldsIf_pick rfl _ _ _ rfl true rfl (.bool true) rfl) trivial ?_
    simp only [AP]
    refine wpSeq_yield (S := fun _ => True) (yieldsIf_assign rfl _ rfl (.bool true) rfl) trivial ?_
    simp only [AP]
    refine wpSeq_nil ?_
    refine (by assumption : ∀ (a : Act) (w : World), _ → _) _ _ ?_
    clear y1 y2 y6
    go_wp2
    go_ret
    obtain rfl := HD.out
    exact ⟨by rw [decide_eq_true (Or.inl l1)]; rfl, b.out⟩
  by_cases l2 : 50 < n
  · skip
    go_upto_region 1 with fail
    rename_i aK
    refine wp_region_seq ?_
    refine wpSeq_yield (S := fun _ => True) (v := .pointer (some ⟨W.heap.size, 33, none⟩)) (Or.inl ⟨by rfl, fun w' hw' => by go_simp⟩) trivial ?_
    simp only [AP]
    refine wpSeq_yield (S := fun w' => w' = W2) (v := .slice p1 m c1) (Or.inl ⟨by rfl, fun w' hw' => by (rw [hw']; go_simp)⟩) rfl ?_
    simp only [AP]
    refine wpSeq_yield (S := fun _ => True) (v := .int .i64 (m : Int)) (Or.inl ⟨by rfl, fun w' hw' => by go_simp⟩) trivial ?_
    simp only [AP]
    refine wpSeq_yield (S := fun _ => True) (v := .bool false) (Or.inl ⟨by rfl, fun w' hw' => by (go_simp; try omega)⟩) trivial ?_
    simp only [AP]
    refine wpSeq_yield (S := fun _ => True) (yieldsIf_move rfl _ rfl (.bool false) rfl) trivial ?_
    simp only [AP]
    refine wpSeq_yield (S := fun _ => True) (v := .pointer (some ⟨W.heap.size, 34, none⟩)) (Or.inl ⟨by rfl, fun w' hw' => by go_simp⟩) trivial ?_
    simp only [AP]
    refine wpSeq_yield (S := fun w' => w' = W2) (v := .slice p2 n c2) (Or.inl ⟨by rfl, fun w' hw' => by (rw [hw']; go_simp)⟩) rfl ?_
    simp only [AP]
    refine wpSeq_yield (S := fun _ => True) (v := .int .i64 (n : Int)) (Or.inl ⟨by rfl, fun w' hw' => by go_simp⟩) trivial ?_
    simp only [AP]
    refine wpSeq_yield (S := fun _ => True) (v := .bool true) (Or.inl ⟨by rfl, fun w' hw' => by (go_simp; try omega)⟩) trivial ?_
    simp only [AP]
    refine wpSeq_yield (S := fun _ => True) (yieldsIf_pick rfl _ _ _ rfl false rfl (.bool true) rfl) trivial ?_
    simp only [AP]
    refine wpSeq_yield (S := fun _ => True) (yieldsIf_move rfl _ rfl (.bool true) rfl) trivial ?_
    simp only [AP]
    refine wpSeq_yield (S := fun _ => True) (yieldsIf_off rfl) trivial ?_
    simp only [AP]
    refine wpSeq_yield (S := fun _ => True) (yieldsIf_off rfl) trivial ?_
    simp only [AP]
    refine wpSeq_yield (S := fun _ => True) (yieldsIf_off rfl) trivial ?_
    simp only [AP]
    refine wpSeq_yield (S := fun _ => True) (yieldsIf_off rfl) trivial ?_
    simp only [AP]
    refine wpSeq_yield (S := fun _ => True) (yieldsIf_pick rfl _ _ _ rfl true rfl (.bool true) rfl) trivial ?_
    simp only [AP]
    refine wpSeq_yield (S := fun _ => True) (yieldsIf_assign rfl _ rfl (.bool true) rfl) trivial ?_
    simp only [AP]
    refine wpSeq_nil ?_
    refine (by assumption : ∀ (a : Act) (w : World), _ → _) _ _ ?_
    clear y1 y2 y6
    go_wp2
    go_ret
    obtain rfl := HD.out
    exact ⟨by rw [decide_eq_true (Or.inr (Or.inl l2))]; rfl, b.out⟩
  by_cases l3 : 120 < k
  · skip
    go_upto_region 1 with fail
    rename_i aK
    refine wp_region_seq ?_
    refine wpSeq_yield (S := fun _ => True) (v := .pointer (some ⟨W.heap.size, 33, none⟩)) (Or.inl ⟨by rfl, fun w' hw' => by go_simp⟩) trivial ?_
    simp only [AP]
    refine wpSeq_yield (S := fun w' => w' = W2) (v := .slice p1 m c1) (Or.inl ⟨by rfl, fun w' hw' => by (rw [hw']; go_simp)⟩) rfl ?_
    simp only [AP]
    refine wpSeq_yield (S := fun _ => True) (v := .int .i64 (m : Int)) (Or.inl ⟨by rfl, fun w' hw' => by go_simp⟩) trivial ?_
    simp only [AP]
    refine wpSeq_yield (S := fun _ => True) (v := .bool false) (Or.inl ⟨by rfl, fun w' hw' => by (go_simp; try omega)⟩) trivial ?_
    simp only [AP]
    refine wpSeq_yield (S := fun _ => True) (yieldsIf_move rfl _ rfl (.bool false) rfl) trivial ?_
    simp only [AP]
    refine wpSeq_yield (S := fun _ => True) (v := .pointer (some ⟨W.heap.size, 34, none⟩)) (Or.inl ⟨by rfl, fun w' hw' => by go_simp⟩) trivial ?_
    simp only [AP]
    refine wpSeq_yield (S := fun w' => w' = W2) (v := .slice p2 n c2) (Or.inl ⟨by rfl, fun w' hw' => by (rw [hw']; go_simp)⟩) rfl ?_
    simp only [AP]
    refine wpSeq_yield (S := fun _ => True) (v := .int .i64 (n : Int)) (Or.inl ⟨by rfl, fun w' hw' => by go_simp⟩) trivial ?_
    simp only [AP]
    refine wpSeq_yield (S := fun _ => True) (v := .bool false) (Or.inl ⟨by rfl, fun w' hw' => by (go_simp; try omega)⟩) trivial ?_
    simp only [AP]
    refine wpSeq_yield (S := fun _ => True) (yieldsIf_pick rfl _ _ _ rfl false rfl (.bool false) rfl) trivial ?_
    simp only [AP]
    refine wpSeq_yield (S := fun _ => True) (yieldsIf_move rfl _ rfl (.bool false) rfl) trivial ?_
    simp only [AP]
    refine wpSeq_yield (S := fun _ => True) (v := .pointer (some ⟨W.heap.size, 38, none⟩)) (Or.inl ⟨by rfl, fun w' hw' => by go_simp⟩) trivial ?_
    simp only [AP]
    refine wpSeq_yield (S := fun w' => w' = W2) (v := .slice p3 k c3) (Or.inl ⟨by rfl, fun w' hw' => by (rw [hw']; go_simp)⟩) rfl ?_
    simp only [AP]
    refine wpSeq_yield (S := fun _ => True) (v := .int .i64 (k : Int)) (Or.inl ⟨by rfl, fun w' hw' => by go_simp⟩) trivial ?_
    simp only [AP]
    refine wpSeq_yield (S := fun _ => True) (v := .bool true) (Or.inl ⟨by rfl, fun w' hw' => by (go_simp; try omega)⟩) trivial ?_
    simp only [AP]
    refine wpSeq_yield (S := fun _ => True) (yieldsIf_pick rfl _ _ _ rfl false rfl (.bool true) rfl) trivial ?_
    simp only [AP]
    refine wpSeq_yield (S := fun _ => True) (yieldsIf_assign rfl _ rfl (.bool true) rfl) trivial ?_
    simp only [AP]
    refine wpSeq_nil ?_
    refine (by assumption : ∀ (a : Act) (w : World), _ → _) _ _ ?_
    clear y1 y2 y6
    go_wp2
    go_ret
    obtain rfl := HD.out
    exact ⟨by rw [decide_eq_true (Or.inr (Or.inr l3))]; rfl, b.out⟩
  go_upto_region 1 with fail
  rename_i aK
  refine wp_region_seq ?_
  refine wpSeq_yield (S := fun _ => True) (v := .pointer (some ⟨W.heap.size, 33, none⟩)) (Or.inl ⟨by rfl, fun w' hw' => by go_simp⟩) trivial ?_
  simp only [AP]
  refine wpSeq_yield (S := fun w' => w' = W2) (v := .slice p1 m c1) (Or.inl ⟨by rfl, fun w' hw' => by (rw [hw']; go_simp)⟩) rfl ?_
  simp only [AP]
  refine wpSeq_yield (S := fun _ => True) (v := .int .i64 (m : Int)) (Or.inl ⟨by rfl, fun w' hw' => by go_simp⟩) trivial ?_
  simp only [AP]
  refine wpSeq_yield (S := fun _ => True) (v := .bool false) (Or.inl ⟨by rfl, fun w' hw' => by (go_simp; try omega)⟩) trivial ?_
  simp only [AP]
  refine wpSeq_yield (S := fun _ => True) (yieldsIf_move rfl _ rfl (.bool false) rfl) trivial ?_
  simp only [AP]
  refine wpSeq_yield (S := fun _ => True) (v := .pointer (some ⟨W.heap.size, 34, none⟩)) (Or.inl ⟨by rfl, fun w' hw' => by go_simp⟩) trivial ?_
  simp only [AP]
  refine wpSeq_yield (S := fun w' => w' = W2) (v := .slice p2 n c2) (Or.inl ⟨by rfl, fun w' hw' => by (rw [hw']; go_simp)⟩) rfl ?_
  simp only [AP]
  refine wpSeq_yield (S := fun _ => True) (v := .int .i64 (n : Int)) (Or.inl ⟨by rfl, fun w' hw' => by go_simp⟩) trivial ?_
  simp only [AP]
  refine wpSeq_yield (S := fun _ => True) (v := .bool false) (Or.inl ⟨by rfl, fun w' hw' => by (go_simp; try omega)⟩) trivial ?_
  simp only [AP]
  refine wpSeq_yield (S := fun _ => True) (yieldsIf_pick rfl _ _ _ rfl false rfl (.bool false) rfl) trivial ?_
  simp only [AP]
  refine wpSeq_yield (S := fun _ => True) (yieldsIf_move rfl _ rfl (.bool false) rfl) trivial ?_
  simp only [AP]
  refine wpSeq_yield (S := fun _ => True) (v := .pointer (some ⟨W.heap.size, 38, none⟩)) (Or.inl ⟨by rfl, fun w' hw' => by go_simp⟩) trivial ?_
  simp only [AP]
  refine wpSeq_yield (S := fun w' => w' = W2) (v := .slice p3 k c3) (Or.inl ⟨by rfl, fun w' hw' => by (rw [hw']; go_simp)⟩) rfl ?_
  simp only [AP]
  refine wpSeq_yield (S := fun _ => True) (v := .int .i64 (k : Int)) (Or.inl ⟨by rfl, fun w' hw' => by go_simp⟩) trivial ?_
  simp only [AP]
  refine wpSeq_yield (S := fun _ => True) (v := .bool false) (Or.inl ⟨by rfl, fun w' hw' => by (go_simp; try omega)⟩) trivial ?_
  simp only [AP]
  refine wpSeq_yield (S := fun _ => True) (yieldsIf_pick rfl _ _ _ rfl false rfl (.bool false) rfl) trivial ?_
  simp only [AP]
  refine wpSeq_yield (S := fun _ => True) (yieldsIf_assign rfl _ rfl (.bool false) rfl) trivial ?_
  simp only [AP]
  refine wpSeq_nil ?_
  refine (by assumption : ∀ (a : Act) (w : World), _ → _) _ _ ?_
  clear y1 y2 y6
  go_wp2
  go_ret
  obtain rfl := HD.out
  exact ⟨by rw [decide_eq_false (fun h => by omega)]; rfl, b.out⟩
end Go.Proofs.YtpihgljdbpnehaaDoor
