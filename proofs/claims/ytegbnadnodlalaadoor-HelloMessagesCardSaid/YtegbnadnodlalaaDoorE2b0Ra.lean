/- The program's fits, sized, message, Message (printed by gen14/eb.py). The program's copies of bytes; sizes and rooms of short numbers. -/
import Derived.Test.YtegbnadnodlalaaDoorE2a0E1a
import Derived.Test.YtegbnadnodlalaaDoorBg0Us
import Derived.Test.YtegbnadnodlalaaDoorLl0Lo
import Derived.Lib.SliceRun
namespace Go.Proofs.YtegbnadnodlalaaDoor
open Go.RowKit
theorem vals_four (a b c d : Nat) : (#[.int .u8 (a : Int), .int .u8 (b : Int), .int .u8 (c : Int), .int .u8 (d : Int)] : Array Value) = (vals [a, b, c, d]).toArray := rfl
/-- Bytes behind a row that was just laid. -/
theorem append_fresh (W : World) (ty : TypeId) (x : Value) (l m : List Nat) (hx : SB W x m) (hl : l.length + m.length ≤ 1000000) (B : Nat) (w0 : World) (b : Below B w0 W) (hB : B ≤ W.heap.size) :
    ∃ v' w', (Builtin.append_ #[22, 22] ty #[.slice (some ⟨W.heap.size, 0, none⟩) l.length l.length, x]).run Tryd.prog (W.alloc (.cells (vals l).toArray 5)) = .ok v' w' ∧ OwL B w' v' (l ++ m) ∧ Below B w0 w' := by
  have b1 := (Below.refl W.heap.size W).alloc (Nat.le_refl _) (.cells (vals l).toArray 5)
  exact append_more B w0 _ ty _ x l m (OwL.new B W l hB (by simp only [maxLen]; omega)) (hx.below b1) hl (b.trans (b1.mono hB)) (Nat.le_trans hB b1.size)
set_option maxHeartbeats 8000000 in
set_option maxRecDepth 100000 in
theorem fits_c (n : Nat) (W : World) (b : Bool) (hb : decide (1 ≤ n ∧ n ≤ 32) = b) : Calls Tryd.prog 19 #[.int .i64 (n : Int)] W fun e w' => e = .returned (.bool b) ∧ w' = W := by
  have hh := hb
  by_cases h1 : 1 ≤ n
  · have e1 : (1 : Int) ≤ (n : Int) := by omega
    by_cases h2 : n ≤ 32
    · have e2 : (n : Int) ≤ 32 := by omega
      rw [decide_eq_true ⟨h1, h2⟩] at hh
      subst hh
      clear hb h1 h2
      go_enter Tryd.func19, Tryd.ntmps19
      go_wp2
      go_ret
      exact ⟨rfl, rfl⟩
    · have e2 : ¬ (n : Int) ≤ 32 := by omega
      rw [decide_eq_false (fun h => h2 h.2)] at hh
      subst hh
      clear hb h1 h2
      go_enter Tryd.func19, Tryd.ntmps19
      go_wp2
      go_ret
      exact ⟨rfl, rfl⟩
  · have e1 : ¬ (1 : Int) ≤ (n : Int) := by omega
    rw [decide_eq_false (fun h => h1 h.1)] at hh
    subst hh
    clear hb h1
    go_enter Tryd.func19, Tryd.ntmps19
    go_wp2
    go_ret
    exact ⟨rfl, rfl⟩
set_option maxHeartbeats 8000000 in
set_option maxRecDepth 100000 in
theorem message_c (k : Nat) (ls : List (List Nat)) (p : Option Addr) (n c : Nat) (hn : ls.flatten.length ≤ 50000) (W : World) (hs : SP W (.slice p n c) ls) (hl : ls.length ≤ 100000) :
    Calls Tryd.prog 17 #[.int .u8 (k : Int), .slice p n c] W fun e w' => ∃ v, e = .returned v ∧ OwL W.heap.size w' v (msgB k ls.flatten) ∧ Below W.heap.size W w' := by
  have CC := Lib.hid (concat_c ls p n c (by omega) W hs hl)
  unfold msgB
  generalize ls.flatten = b at *
  obtain ⟨m, hm⟩ : ∃ m, b.length = m := ⟨_, rfl⟩
  rw [hm] at hn ⊢
  have e1 : ((m : Nat) : Int) / 65536 = ((m / 65536 : Nat) : Int) := by omega
  have e2 : ((m : Nat) : Int) / 256 = ((m / 256 : Nat) : Int) := by omega
  have e3 : IntKind.u8.wrap ((m / 65536 : Nat) : Int) = ((m / 65536 : Nat) : Int) := by rw [IntKind.wrap_u8]; omega
  have e4 : IntKind.u8.wrap ((m / 256 : Nat) : Int) = ((m / 256 % 256 : Nat) : Int) := by rw [IntKind.wrap_u8]; omega
  have e5 : IntKind.u8.wrap (m : Int) = ((m % 256 : Nat) : Int) := by rw [IntKind.wrap_u8]; omega
  obtain ⟨x1, hx1⟩ : ∃ x, m / 65536 = x := ⟨_, rfl⟩
  obtain ⟨x2, hx2⟩ : ∃ x, m / 256 = x := ⟨_, rfl⟩
  obtain ⟨x3, hx3⟩ : ∃ x, x2 % 256 = x := ⟨_, rfl⟩
  obtain ⟨x4, hx4⟩ : ∃ x, m % 256 = x := ⟨_, rfl⟩
  rw [hx1] at e1 e3 ⊢
  rw [hx2] at e2 e4 ⊢
  rw [hx3] at e4 ⊢
  rw [hx4] at e5 ⊢
  have AF := Lib.hid (fun (w1 : World) (v1 : Value) (h : SB w1 v1 b) (b1 : Below W.heap.size W w1) => append_fresh w1 22 v1 [k, x1, x3, x4] b h (by simp only [List.length_cons, List.length_nil]; omega) W.heap.size W b1 b1.size)
  have HM := Lib.hid hm
  clear hs hl hx1 hx2 hx3 hx4 hm hn
  go_enter Tryd.func17, Tryd.ntmps17
  go_wp2_with fail
  refine CC.out.mono ?_
  rintro _ w1 ⟨v1, rfl, O1, b1⟩
  clear CC
  obtain ⟨p1, c1, hv⟩ := O1.shape
  rw [HM.out] at hv
  subst hv
  obtain ⟨v', w', h1, h2, h3⟩ := AF.out w1 _ O1.sb b1
  have F := Lib.hid (And.intro h2 h3)
  rw [← vals_four] at h1
  replace h1 := Lib.hid h1
  clear AF h2 h3 b1 O1
  go_upto_region 2 with fail
  rename_i aK
  refine wp_region_seq ?_
  refine wpSeq_yield (S := fun _ => True) (yieldsIf_move rfl _ rfl (.slice p1 m c1) rfl) trivial ?_
  simp only [AP]
  refine wpSeq_yield (S := fun _ => True) (v := .int .i64 (m : Int)) (Or.inl ⟨by rfl, fun w' hw' => by go_simp⟩) trivial ?_
  simp only [AP]
  refine wpSeq_yield (S := fun _ => True) (yieldsIf_assign rfl _ rfl (.int .i64 (m : Int)) rfl) trivial ?_
  simp only [AP]
  refine wpSeq_nil ?_
  refine (by assumption : ∀ (a : Act) (w : World), _ → _) _ _ ?_
  go_upto_region 3 with fail
  rename_i aK
  refine wp_region_seq ?_
  refine wpSeq_yield (S := fun _ => True) (yieldsIf_move rfl _ rfl (.int .u8 (k : Int)) rfl) trivial ?_
  simp only [AP]
  refine wpSeq_yield (S := fun _ => True) (yieldsIf_move rfl _ rfl (.int .i64 (m : Int)) rfl) trivial ?_
  simp only [AP]
  refine wpSeq_yield (S := fun _ => True) (v := .int .i64 (x1 : Int)) (Or.inl ⟨by rfl, fun w' hw' => by go_simp⟩) trivial ?_
  simp only [AP]
  refine wpSeq_yield (S := fun _ => True) (v := .int .u8 (x1 : Int)) (Or.inl ⟨by rfl, fun w' hw' => by go_simp⟩) trivial ?_
  simp only [AP]
  refine wpSeq_yield (S := fun _ => True) (yieldsIf_move rfl _ rfl (.int .i64 (m : Int)) rfl) trivial ?_
  simp only [AP]
  refine wpSeq_yield (S := fun _ => True) (v := .int .i64 (x2 : Int)) (Or.inl ⟨by rfl, fun w' hw' => by go_simp⟩) trivial ?_
  simp only [AP]
  refine wpSeq_yield (S := fun _ => True) (v := .int .u8 (x3 : Int)) (Or.inl ⟨by rfl, fun w' hw' => by go_simp⟩) trivial ?_
  simp only [AP]
  refine wpSeq_yield (S := fun _ => True) (yieldsIf_move rfl _ rfl (.int .i64 (m : Int)) rfl) trivial ?_
  simp only [AP]
  refine wpSeq_yield (S := fun _ => True) (v := .int .u8 (x4 : Int)) (Or.inl ⟨by rfl, fun w' hw' => by go_simp⟩) trivial ?_
  simp only [AP]
  refine wpSeq_wp rfl ?_
  unfold Oper.wp execOp
  go_simp
  refine wpSeq_yield (S := fun _ => True) (yieldsIf_move rfl _ rfl (.slice p1 m c1) rfl) trivial ?_
  simp only [AP]
  refine wpSeq_wp rfl (wp_append_run _ _ _ _ rfl _ _ rfl rfl _ w' h1.out ?_)
  simp only [AP]
  refine wpSeq_yield (S := fun _ => True) (yieldsIf_assign rfl _ rfl (v') rfl) trivial ?_
  simp only [AP]
  refine wpSeq_nil ?_
  refine (by assumption : ∀ (a : Act) (w : World), _ → _) _ _ ?_
  go_wp2
  go_ret
  exact ⟨_, rfl, F.out.1, F.out.2⟩
theorem sp_one1 {w : World} {v : Value} {l : List Nat} (t : TypeId) (h : SB w v l) : SP (w.alloc (.cells #[v] t)) (.slice (some ⟨w.heap.size, 0, none⟩) 1 1) [l] := by
  refine ⟨_, 1, rfl, Nat.le_refl _, Or.inr ⟨w.heap.size, 0, rfl, by simp, fun i hi => ?_⟩⟩
  obtain rfl : i = 0 := by simp at hi; exact hi
  exact ⟨v, by rw [(Blk.new w t #[v]).cell]; rfl, h.below ((Below.refl _ _).alloc (Nat.le_refl _) _)⟩
set_option maxHeartbeats 8000000 in
set_option maxRecDepth 100000 in
theorem msg_c (k : Nat) (l : List Nat) (p : Option Addr) (n c : Nat) (hn : n ≤ 50000) (W : World) (hs : SB W (.slice p n c) l) :
    Calls Tryd.prog 7 #[.int .u8 (k : Int), .slice p n c] W fun e w' => ∃ v, e = .returned (.tuple #[v, .int .i64 ((msgF k l).1 : Int)]) ∧ OwL W.heap.size w' v (msgF k l).2 ∧ Below W.heap.size W w' := by
  have ln := hs.len.1
  unfold msgF
  by_cases h : 4096 < l.length
  · rw [if_pos h]
    have z : (4096 : Int) < (n : Int) := by omega
    clear hs h ln
    go_enter Tryd.func7, Tryd.ntmps7
    go_wp2
    refine bodyPost_ret (results_tmp2 rfl _ _ _) rfl ?_
    exact ⟨_, rfl, OwL.nil _ _, Below.refl _ _⟩
  · rw [if_neg h]
    have z : ¬ (4096 : Int) < (n : Int) := by omega
    have b1 := (Below.refl W.heap.size W).alloc (Nat.le_refl _) (.cells #[.slice p n c] 22)
    have MC := Lib.hid (message_c k [l] (some ⟨W.heap.size, 0, none⟩) 1 1 (by simp only [List.flatten_cons, List.flatten_nil, List.append_nil]; omega) _ (sp_one1 22 hs) (Nat.le_of_ble_eq_true rfl))
    rw [show [l].flatten = l by simp] at MC
    replace b1 := Lib.hid b1
    clear hs h ln
    go_enter Tryd.func7, Tryd.ntmps7
    go_wp2_with fail
    refine MC.out.mono ?_
    rintro _ w1 ⟨v1, rfl, O1, b2⟩
    clear MC
    go_wp2
    refine bodyPost_ret (results_tmp2 rfl _ _ _) rfl ?_
    exact ⟨_, rfl, O1.mono b1.out.size, b1.out.trans (b2.mono b1.out.size)⟩
end Go.Proofs.YtegbnadnodlalaaDoor
namespace Go.Proofs.YtegbnadnodlalaaDoor
open Go.RowKit
set_option maxHeartbeats 4000000 in
set_option maxRecDepth 100000 in
theorem clone_c (l : List Nat) (p : Option Addr) (n c : Nat) (hn : n ≤ 10000000) (W : World) (hs : SB W (.slice p n c) l) :
    Calls Tryd.prog 18 #[.slice p n c] W fun e w' => ∃ v, e = .returned v ∧ OwL W.heap.size w' v l ∧ Below W.heap.size W w' := by
  have q22 : ∀ (w : World) (a : Option Addr) (n c n' c' : Nat), (binOp .eql 22 (.slice a n c) (.slice none n' c')).run Tryd.prog w = .ok (.bool a.isNone) w := fun w a n c n' c' => Lib.run_eql_slice_nil w _ _ a n c n' c' Tryd.underlying22
  cases p with
  | none =>
    have hl : l = [] := by
      rcases hs.at_ with h0 | ⟨g, o, e, _⟩
      · exact List.length_eq_zero_iff.1 (by have := hs.len.1; omega)
      · cases e
    subst hl
    clear hs hn
    go_enter Tryd.func18, Tryd.ntmps18
    go_wp2
    go_ret
    exact ⟨_, rfl, OwL.nil _ _, Below.refl _ _⟩
  | some a =>
    have b0 := (Below.refl W.heap.size W).alloc (Nat.le_refl _) (.cells #[] 5)
    obtain ⟨v1, w1, h1, O1, g1, _⟩ := append_sb W.heap.size _ 22 _ (.slice (some a) n c) [] l (OwL.new W.heap.size W [] (Nat.le_refl _) (Nat.zero_le _)) (hs.below b0) (by have := hs.len.1; simp only [List.length_nil]; omega) b0.size
    rw [List.nil_append] at O1
    have b1 := below_grown' b0 g1 (fun j e => by have e' := Option.some.inj e; dsimp only at e'; omega) b0.size
    clear g1 b0 hs hn
    go_enter Tryd.func18, Tryd.ntmps18
    go_upto_region 3 with fail
    rename_i aK
    refine wp_region_seq ?_
    refine wpSeq_wp rfl (wp_build_run _ rfl _ _ (run_buildSlice_none _) ?_)
    simp only [AP]
    refine wpSeq_yield (S := fun _ => True) (yieldsIf_move rfl _ rfl (.slice (some a) n c) rfl) trivial ?_
    simp only [AP]
    refine wpSeq_wp rfl (wp_append_run _ _ _ _ rfl _ _ rfl rfl _ w1 h1 ?_)
    simp only [AP]
    refine wpSeq_yield (S := fun _ => True) (yieldsIf_assign rfl _ rfl (v1) rfl) trivial ?_
    simp only [AP]
    refine wpSeq_nil ?_
    refine aK _ _ ?_
    clear aK h1
    go_wp2
    go_ret
    exact ⟨_, rfl, O1, b1⟩
def Q4 (k s r : Nat) : Prop := (k = 0 ∧ s = 1 ∧ r = 6) ∨ (k = 1 ∧ s = 2 ∧ r = 14) ∨ (k = 2 ∧ s = 4 ∧ r = 30) ∨ (k = 3 ∧ s = 8 ∧ r = 62)
theorem Q4.of (k : Nat) (h : k ≤ 3) : Q4 k (2 ^ k) (8 * 2 ^ k - 2) := by
  have h4 : k = 0 ∨ k = 1 ∨ k = 2 ∨ k = 3 := by omega
  rcases h4 with rfl | rfl | rfl | rfl <;> (unfold Q4; decide)
end Go.Proofs.YtegbnadnodlalaaDoor
