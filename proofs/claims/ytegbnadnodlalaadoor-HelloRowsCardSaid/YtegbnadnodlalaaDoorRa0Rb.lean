/- The program's copies of bytes; sizes and rooms of short numbers. The program's Take (printed by gen14/ec.py). The program's Readers in memory: New, Code, Left, Fail. -/
import Derived.Test.YtegbnadnodlalaaDoorBg0Us
import Derived.Test.YtegbnadnodlalaaDoorLl0Lo
import Derived.Lib.SliceRun
import Derived.Test.YtegbnadnodlalaaDoorE2a0E2b
import Derived.Laws.BitsLemmas
namespace Go.Proofs.YtegbnadnodlalaaDoor
open Go.RowKit
set_option maxHeartbeats 4000000 in
set_option maxRecDepth 100000 in
theorem clone_c (l : List Nat) (p : Option Addr) (n c : Nat) (hn : n ≤ 10000000) (W : World) (hs : SB W (.slice p n c) l) :
    Calls Tryd.prog 18 #[.slice p n c] W fun e w' => ∃ v, e = .returned v ∧ OwL W.heap.size w' v l ∧ Below W.heap.size W w' := by
  have q22 : ∀ (w : World) (a : Option Addr) (n c n' c' : Nat), (binOp .eql 22 (.slice a n c) (.slice none n' c')).run Tryd.prog w = .ok (.bool a.isNone) w := fun w a n c n' c' => Lib.run_eql_slice_nil w _ _ a n c n' c' Tryd.underlying22
  cases p with
  | none =>
    have hl : l = [] := by
      rcases hs.at_ with h0 | ⟨g, o, e, _⟩
      · exact List.length_eq_zero_iff.1 (by have := hs.len.1; omega)
      · cases e
    subst hl
    clear hs hn
    go_enter Tryd.func18, Tryd.ntmps18
    go_wp2
    go_ret
    exact ⟨_, rfl, OwL.nil _ _, Below.refl _ _⟩
  | some a =>
    have b0 := (Below.refl W.heap.size W).alloc (Nat.le_refl _) (.cells #[] 5)
    obtain ⟨v1, w1, h1, O1, g1, _⟩ := append_sb W.heap.size _ 22 _ (.slice (some a) n c) [] l (OwL.new W.heap.size W [] (Nat.le_refl _) (Nat.zero_le _)) (hs.below b0) (by have := hs.len.1; simp only [List.length_nil]; omega) b0.size
    rw [List.nil_append] at O1
    have b1 := below_grown' b0 g1 (fun j e => by have e' := Option.some.inj e; dsimp only at e'; omega) b0.size
    clear g1 b0 hs hn
    go_enter Tryd.func18, Tryd.ntmps18
    go_upto_region 3 with fail
    rename_i aK
    refine wp_region_seq ?_
    refine wpSeq_wp rfl (wp_build_run _ rfl _ _ (run_buildSlice_none _) ?_)
    simp only [AP]
    refine wpSeq_yield (S := fun _ => True) (yieldsIf_move rfl _ rfl (.slice (some a) n c) rfl) trivial ?_
    simp only [AP]
    refine wpSeq_wp rfl (wp_append_run _ _ _ _ rfl _ _ rfl rfl _ w1 h1 ?_)
    simp only [AP]
    refine wpSeq_yield (S := fun _ => True) (yieldsIf_assign rfl _ rfl (v1) rfl) trivial ?_
    simp only [AP]
    refine wpSeq_nil ?_
    refine aK _ _ ?_
    clear aK h1
    go_wp2
    go_ret
    exact ⟨_, rfl, O1, b1⟩
def Q4 (k s r : Nat) : Prop := (k = 0 ∧ s = 1 ∧ r = 6) ∨ (k = 1 ∧ s = 2 ∧ r = 14) ∨ (k = 2 ∧ s = 4 ∧ r = 30) ∨ (k = 3 ∧ s = 8 ∧ r = 62)
theorem Q4.of (k : Nat) (h : k ≤ 3) : Q4 k (2 ^ k) (8 * 2 ^ k - 2) := by
  have h4 : k = 0 ∨ k = 1 ∨ k = 2 ∨ k = 3 := by omega
  rcases h4 with rfl | rfl | rfl | rfl <;> (unfold Q4; decide)
end Go.Proofs.YtegbnadnodlalaaDoor
namespace Go.Proofs.YtegbnadnodlalaaDoor
open Go.RowKit
theorem iwraps (n : Int) (h0 : 0 ≤ n) (h1 : n < 2 ^ 32) : IntKind.i64.wrap n = n := by rw [IntKind.wrap_i64]; omega
theorem or_i64 (i : Nat) (x y : Int) (hx0 : 0 ≤ x) (hx : x % 2 ^ i = 0) (hx1 : x < 2 ^ 32) (h0 : 0 ≤ y) (h1 : y < 2 ^ i) (hi : (2 : Int) ^ i ≤ 2 ^ 32) : bits .or .i64 x y = x + y :=
  bits_join .i64 32 (by decide) iwraps i x y hx0 hx hx1 h0 h1 (by omega)
theorem results_tmp4 {P : Program} {fn : Func} {t u v x : Tmp} (h : fn.results = #[.tmp t, .tmp u, .tmp v, .tmp x]) (tmps : Array Value) (w : World) :
    (results fn tmps).run P w = .ok (.tuple #[tmps.getD t undef, tmps.getD u undef, tmps.getD v undef, tmps.getD x undef]) w := by
  simp [results, h]
theorem SB.mid {w : World} {p : Option Addr} {n c : Nat} {l : List Nat} (h : SB w (.slice p n c) l) (a b : Nat) (hab : a ≤ b) (hb : b ≤ n) : SB w (.slice (tailP p c a) (b - a) (c - a)) ((l.take b).drop a) := (h.head b hb).tail a hab
theorem yieldsIf_mid {ops : Array Oper} {S : World → Prop} {o : Oper} {a : Act} (hgd : Region.wanted o (yielded ops a.tmps) = true) (x lo hi : Operand) (ho : o.op = .slice 22 x (some lo) (some hi) none) (p : Option Addr) (n c k m : Nat) (hx : a.eval x = .slice p n c) (hlo : a.eval lo = .int .i64 (k : Int)) (hhi : a.eval hi = .int .i64 (m : Int)) (hk : k ≤ m) (hm : m ≤ c) :
    YieldsIf Tryd.prog ops S o (.slice (tailP p c k) (m - k) (c - k)) a := by
  refine Or.inl ⟨hgd, fun w hw => ?_⟩
  have q1 : (0 : Int) ≤ (k : Int) := by omega
  have q2 : (k : Int) ≤ (m : Int) := by omega
  have q3 : (m : Int) ≤ (c : Int) := by omega
  simp only [execOp, ho, hx, Option.map_some, hlo, hhi]
  cases p with
  | none =>
    go_simp
    rfl
  | some b =>
    go_simp
    by_cases h : c = k <;> simp [tailP, h]
def TakePost (l : List Nat) (W : World) (e : Ending) (w' : World) : Prop := ∃ v, e = .returned (.tuple #[.int .u8 ((takeM l).2.1 : Int), v, .int .i64 ((takeM l).2.2.2 : Int), .int .i64 ((takeM l).1 : Int)]) ∧ OwL W.heap.size w' v (takeM l).2.2.1 ∧ Below W.heap.size W w'
set_option maxHeartbeats 8000000 in
set_option maxRecDepth 100000 in
theorem take_short4 (l : List Nat) (h : l.length < 4) (p : Option Addr) (n c : Nat) (W : World) (hs : SB W (.slice p n c) l) :
    Calls Tryd.prog 8 #[.slice p n c] W (TakePost l W) := by
  have e : takeM l = (0, 0, [], 0) := by
    match l, h with
    | [], _ => rfl
    | [_], _ => rfl
    | [_, _], _ => rfl
    | [_, _, _], _ => rfl
  have z : (n : Int) < 4 := by have := hs.len.1; omega
  unfold TakePost
  rw [e]
  clear hs h e
  go_enter Tryd.func8, Tryd.ntmps8
  go_wp2
  refine bodyPost_ret (results_tmp4 rfl _ _) rfl ?_
  exact ⟨_, rfl, OwL.nil _ _, Below.refl _ _⟩
set_option maxHeartbeats 8000000 in
set_option maxRecDepth 100000 in
theorem take_four (k x y z : Nat) (r : List Nat) (bk : k < 256) (bx : x < 256) (by_ : y < 256) (bz : z < 256) (hr : r.length ≤ 10000000) (g o n c : Nat) (W : World) (hs : SB W (.slice (some ⟨g, o, none⟩) n c) (k :: x :: y :: z :: r)) :
    Calls Tryd.prog 8 #[.slice (some ⟨g, o, none⟩) n c] W (TakePost (k :: x :: y :: z :: r) W) := by
  have hl := hs.len
  have cell := fun i (hi : i < (k :: x :: y :: z :: r).length) => show W.cell? ⟨g, o + i, none⟩ = some (.int .u8 (((k :: x :: y :: z :: r)[i] : Nat) : Int)) by
    rcases hs.at_ with h0 | ⟨g', o', e, A⟩
    · simp only [List.length_cons] at hl
      omega
    · simp only [Option.some.injEq, Addr.mk.injEq] at e
      obtain ⟨rfl, rfl, _⟩ := e
      exact A.cell i hi
  have c0 := cell 0 (by simp)
  have c1 := cell 1 (by simp)
  have c2 := cell 2 (by simp)
  have c3 := cell 3 (by simp)
  simp only [List.getElem_cons_zero, List.getElem_cons_succ] at c0 c1 c2 c3
  rw [Nat.add_zero] at c0
  simp only [List.length_cons] at hl
  obtain ⟨X, hX⟩ : ∃ X, x * 65536 = X := ⟨_, rfl⟩
  obtain ⟨Y, hY⟩ : ∃ Y, y * 256 = Y := ⟨_, rfl⟩
  obtain ⟨V, hV⟩ : ∃ V, X + Y = V := ⟨_, rfl⟩
  obtain ⟨N, hN⟩ : ∃ N, V + z = N := ⟨_, rfl⟩
  have nb : N < 16777216 := by omega
  have e1 : IntKind.i64.wrap ((x : Int) * 65536) = (X : Int) := by rw [IntKind.wrap_i64]; omega
  have e2 : IntKind.i64.wrap ((y : Int) * 256) = (Y : Int) := by rw [IntKind.wrap_i64]; omega
  have e3 : bits .or .i64 (X : Int) (Y : Int) = (V : Int) := by rw [or_i64 16 _ _ (by omega) (by omega) (by omega) (by omega) (by omega) (by decide)]; omega
  have e4 : bits .or .i64 (V : Int) (z : Int) = (N : Int) := by rw [or_i64 8 _ _ (by omega) (by omega) (by omega) (by omega) (by omega) (by decide)]; omega
  have e5 : ¬ (n : Int) < 4 := by omega
  have e6 : IntKind.i64.wrap (x : Int) = (x : Int) := by rw [IntKind.wrap_i64]; omega
  have e7 : IntKind.i64.wrap (y : Int) = (y : Int) := by rw [IntKind.wrap_i64]; omega
  have e8 : IntKind.i64.wrap (z : Int) = (z : Int) := by rw [IntKind.wrap_i64]; omega
  have n3 : (1 : Int) < (n : Int) ∧ (2 : Int) < (n : Int) ∧ (3 : Int) < (n : Int) ∧ (0 : Int) < (n : Int) := by omega
  obtain ⟨n1, n2, n3, n0⟩ := n3
  have ST := Lib.hid hs
  have gl := Lib.hid (show g < W.heap.size by
    rcases hs.at_ with h0 | ⟨g', o', e, A⟩
    · omega
    · simp only [Option.some.injEq, Addr.mk.injEq] at e
      obtain ⟨rfl, rfl, _⟩ := e
      exact A.blk)
  have TM := takeM_cons k x y z r
  rw [hX, hY, hV, hN] at TM
  unfold TakePost
  obtain ⟨M, hM⟩ : ∃ M, 4 + N = M := ⟨_, rfl⟩
  rw [hM] at TM
  have e9 : IntKind.i64.wrap (4 + (N : Int)) = (M : Int) := by rw [IntKind.wrap_i64]; omega
  have n00 : ¬ n = 0 := by omega
  have HL := Lib.hid (And.intro hl hr)
  clear hs cell hX hY hV hN bk bx by_ bz hr
  by_cases g1 : 4096 < N
  · rw [if_pos g1] at TM
    rw [TM]
    have z1 : (4096 : Int) < (N : Int) := by omega
    clear TM g1 hl nb ST hM
    go_enter Tryd.func8, Tryd.ntmps8
    go_upto_region 3 with fail
    rename_i aK
    have b3 := below_drew (Below.refl W.heap.size W)
    refine wp_region_S (S := fun w' => Below W.heap.size W w') (by kernel_rfl) ?_
    replace b3 := Lib.hid b3
    generalize World.drew W = w1 at *
    have hS := b3.out
    refine wpAnyS_takeL 0 (v := .slice (some ⟨g, o, none⟩) n c) rfl (by kernel_rfl) (by kernel_rfl) (by kernel_rfl) (fun _ _ _ H => H) (yieldsIf_move rfl _ rfl (.slice (some ⟨g, o, none⟩) n c) rfl) hS ?_
    simp only [AP]
    refine wpAnyS_takeL 1 (v := .pointer (some ⟨g, o + 1, none⟩)) rfl (by kernel_rfl) (by kernel_rfl) (by kernel_rfl) (fun _ _ _ H => H) (Or.inl ⟨by rfl, fun w' hw' => by (go_simp)⟩) hS ?_
    simp only [AP]
    refine wpAnyS_takeL 2 (v := .int .u8 (x : Int)) rfl (by kernel_rfl) (by kernel_rfl) (by kernel_rfl) (fun _ _ _ H => H) (Or.inl ⟨by rfl, fun w' hw' => by (have cc := (hw'.cell (p := ⟨g, o + 1, none⟩) gl.out).trans c1; go_simp)⟩) hS ?_
    simp only [AP]
    refine wpAnyS_takeL 3 (v := .int .i64 (x : Int)) rfl (by kernel_rfl) (by kernel_rfl) (by kernel_rfl) (fun _ _ _ H => H) (Or.inl ⟨by rfl, fun w' hw' => by go_simp⟩) hS ?_
    simp only [AP]
    refine wpAnyS_takeL 4 (v := .int .i64 (X : Int)) rfl (by kernel_rfl) (by kernel_rfl) (by kernel_rfl) (fun _ _ _ H => H) (Or.inl ⟨by rfl, fun w' hw' => by go_simp⟩) hS ?_
    simp only [AP]
    refine wpAnyS_takeL 5 (v := .slice (some ⟨g, o, none⟩) n c) rfl (by kernel_rfl) (by kernel_rfl) (by kernel_rfl) (fun _ _ _ H => H) (yieldsIf_move rfl _ rfl (.slice (some ⟨g, o, none⟩) n c) rfl) hS ?_
    simp only [AP]
    refine wpAnyS_takeL 6 (v := .pointer (some ⟨g, o + 2, none⟩)) rfl (by kernel_rfl) (by kernel_rfl) (by kernel_rfl) (fun _ _ _ H => H) (Or.inl ⟨by rfl, fun w' hw' => by (go_simp)⟩) hS ?_
    simp only [AP]
    refine wpAnyS_takeL 7 (v := .int .u8 (y : Int)) rfl (by kernel_rfl) (by kernel_rfl) (by kernel_rfl) (fun _ _ _ H => H) (Or.inl ⟨by rfl, fun w' hw' => by (have cc := (hw'.cell (p := ⟨g, o + 2, none⟩) gl.out).trans c2; go_simp)⟩) hS ?_
    simp only [AP]
    refine wpAnyS_takeL 8 (v := .int .i64 (y : Int)) rfl (by kernel_rfl) (by kernel_rfl) (by kernel_rfl) (fun _ _ _ H => H) (Or.inl ⟨by rfl, fun w' hw' => by go_simp⟩) hS ?_
    simp only [AP]
    refine wpAnyS_takeL 9 (v := .int .i64 (Y : Int)) rfl (by kernel_rfl) (by kernel_rfl) (by kernel_rfl) (fun _ _ _ H => H) (Or.inl ⟨by rfl, fun w' hw' => by go_simp⟩) hS ?_
    simp only [AP]
    refine wpAnyS_takeL 10 (v := .int .i64 (V : Int)) rfl (by kernel_rfl) (by kernel_rfl) (by kernel_rfl) (fun _ _ _ H => H) (Or.inl ⟨by rfl, fun w' hw' => by go_simp⟩) hS ?_
    simp only [AP]
    refine wpAnyS_takeL 11 (v := .slice (some ⟨g, o, none⟩) n c) rfl (by kernel_rfl) (by kernel_rfl) (by kernel_rfl) (fun _ _ _ H => H) (yieldsIf_move rfl _ rfl (.slice (some ⟨g, o, none⟩) n c) rfl) hS ?_
    simp only [AP]
    refine wpAnyS_takeL 12 (v := .pointer (some ⟨g, o + 3, none⟩)) rfl (by kernel_rfl) (by kernel_rfl) (by kernel_rfl) (fun _ _ _ H => H) (Or.inl ⟨by rfl, fun w' hw' => by (go_simp)⟩) hS ?_
    simp only [AP]
    refine wpAnyS_takeL 13 (v := .int .u8 (z : Int)) rfl (by kernel_rfl) (by kernel_rfl) (by kernel_rfl) (fun _ _ _ H => H) (Or.inl ⟨by rfl, fun w' hw' => by (have cc := (hw'.cell (p := ⟨g, o + 3, none⟩) gl.out).trans c3; go_simp)⟩) hS ?_
    simp only [AP]
    refine wpAnyS_takeL 14 (v := .int .i64 (z : Int)) rfl (by kernel_rfl) (by kernel_rfl) (by kernel_rfl) (fun _ _ _ H => H) (Or.inl ⟨by rfl, fun w' hw' => by go_simp⟩) hS ?_
    simp only [AP]
    refine wpAnyS_takeL 15 (v := .int .i64 (N : Int)) rfl (by kernel_rfl) (by kernel_rfl) (by kernel_rfl) (fun _ _ _ H => H) (Or.inl ⟨by rfl, fun w' hw' => by go_simp⟩) hS ?_
    simp only [AP]
    refine wpAnyS_takeL 16 (v := .int .i64 (N : Int)) rfl (by kernel_rfl) (by kernel_rfl) (by kernel_rfl) (fun _ _ _ H => H) (yieldsIf_assign rfl _ rfl (.int .i64 (N : Int)) rfl) hS ?_
    simp only [AP]
    refine wpAnyS_done (by kernel_rfl) ?_ _
    refine aK _ _ ?_
    clear aK
    replace b3 := b3.out
    clear hS
    go_wp2
    refine bodyPost_ret (results_tmp4 rfl _ _) rfl ?_
    exact ⟨_, rfl, OwL.nil _ _, b3⟩
  · rw [if_neg g1] at TM
    have z1 : ¬ (4096 : Int) < (N : Int) := by omega
    by_cases g2 : r.length < N
    · rw [if_pos g2] at TM
      rw [TM]
      have z2 : (n : Int) < (M : Int) := by omega
      clear TM g1 g2 hl nb ST hM
      go_enter Tryd.func8, Tryd.ntmps8
      go_upto_region 3 with fail
      rename_i aK
      have b3 := below_drew (Below.refl W.heap.size W)
      refine wp_region_S (S := fun w' => Below W.heap.size W w') (by kernel_rfl) ?_
      replace b3 := Lib.hid b3
      generalize World.drew W = w1 at *
      have hS := b3.out
      refine wpAnyS_takeL 0 (v := .slice (some ⟨g, o, none⟩) n c) rfl (by kernel_rfl) (by kernel_rfl) (by kernel_rfl) (fun _ _ _ H => H) (yieldsIf_move rfl _ rfl (.slice (some ⟨g, o, none⟩) n c) rfl) hS ?_
      simp only [AP]
      refine wpAnyS_takeL 1 (v := .pointer (some ⟨g, o + 1, none⟩)) rfl (by kernel_rfl) (by kernel_rfl) (by kernel_rfl) (fun _ _ _ H => H) (Or.inl ⟨by rfl, fun w' hw' => by (go_simp)⟩) hS ?_
      simp only [AP]
      refine wpAnyS_takeL 2 (v := .int .u8 (x : Int)) rfl (by kernel_rfl) (by kernel_rfl) (by kernel_rfl) (fun _ _ _ H => H) (Or.inl ⟨by rfl, fun w' hw' => by (have cc := (hw'.cell (p := ⟨g, o + 1, none⟩) gl.out).trans c1; go_simp)⟩) hS ?_
      simp only [AP]
      refine wpAnyS_takeL 3 (v := .int .i64 (x : Int)) rfl (by kernel_rfl) (by kernel_rfl) (by kernel_rfl) (fun _ _ _ H => H) (Or.inl ⟨by rfl, fun w' hw' => by go_simp⟩) hS ?_
      simp only [AP]
      refine wpAnyS_takeL 4 (v := .int .i64 (X : Int)) rfl (by kernel_rfl) (by kernel_rfl) (by kernel_rfl) (fun _ _ _ H => H) (Or.inl ⟨by rfl, fun w' hw' => by go_simp⟩) hS ?_
      simp only [AP]
      refine wpAnyS_takeL 5 (v := .slice (some ⟨g, o, none⟩) n c) rfl (by kernel_rfl) (by kernel_rfl) (by kernel_rfl) (fun _ _ _ H => H) (yieldsIf_move rfl _ rfl (.slice (some ⟨g, o, none⟩) n c) rfl) hS ?_
      simp only [AP]
      refine wpAnyS_takeL 6 (v := .pointer (some ⟨g, o + 2, none⟩)) rfl (by kernel_rfl) (by kernel_rfl) (by kernel_rfl) (fun _ _ _ H => H) (Or.inl ⟨by rfl, fun w' hw' => by (go_simp)⟩) hS ?_
      simp only [AP]
      refine wpAnyS_takeL 7 (v := .int .u8 (y : Int)) rfl (by kernel_rfl) (by kernel_rfl) (by kernel_rfl) (fun _ _ _ H => H) (Or.inl ⟨by rfl, fun w' hw' => by (have cc := (hw'.cell (p := ⟨g, o + 2, none⟩) gl.out).trans c2; go_simp)⟩) hS ?_
      simp only [AP]
      refine wpAnyS_takeL 8 (v := .int .i64 (y : Int)) rfl (by kernel_rfl) (by kernel_rfl) (by kernel_rfl) (fun _ _ _ H => H) (Or.inl ⟨by rfl, fun w' hw' => by go_simp⟩) hS ?_
      simp only [AP]
      refine wpAnyS_takeL 9 (v := .int .i64 (Y : Int)) rfl (by kernel_rfl) (by kernel_rfl) (by kernel_rfl) (fun _ _ _ H => H) (Or.inl ⟨by rfl, fun w' hw' => by go_simp⟩) hS ?_
      simp only [AP]
      refine wpAnyS_takeL 10 (v := .int .i64 (V : Int)) rfl (by kernel_rfl) (by kernel_rfl) (by kernel_rfl) (fun _ _ _ H => H) (Or.inl ⟨by rfl, fun w' hw' => by go_simp⟩) hS ?_
      simp only [AP]
      refine wpAnyS_takeL 11 (v := .slice (some ⟨g, o, none⟩) n c) rfl (by kernel_rfl) (by kernel_rfl) (by kernel_rfl) (fun _ _ _ H => H) (yieldsIf_move rfl _ rfl (.slice (some ⟨g, o, none⟩) n c) rfl) hS ?_
      simp only [AP]
      refine wpAnyS_takeL 12 (v := .pointer (some ⟨g, o + 3, none⟩)) rfl (by kernel_rfl) (by kernel_rfl) (by kernel_rfl) (fun _ _ _ H => H) (Or.inl ⟨by rfl, fun w' hw' => by (go_simp)⟩) hS ?_
      simp only [AP]
      refine wpAnyS_takeL 13 (v := .int .u8 (z : Int)) rfl (by kernel_rfl) (by kernel_rfl) (by kernel_rfl) (fun _ _ _ H => H) (Or.inl ⟨by rfl, fun w' hw' => by (have cc := (hw'.cell (p := ⟨g, o + 3, none⟩) gl.out).trans c3; go_simp)⟩) hS ?_
      simp only [AP]
      refine wpAnyS_takeL 14 (v := .int .i64 (z : Int)) rfl (by kernel_rfl) (by kernel_rfl) (by kernel_rfl) (fun _ _ _ H => H) (Or.inl ⟨by rfl, fun w' hw' => by go_simp⟩) hS ?_
      simp only [AP]
      refine wpAnyS_takeL 15 (v := .int .i64 (N : Int)) rfl (by kernel_rfl) (by kernel_rfl) (by kernel_rfl) (fun _ _ _ H => H) (Or.inl ⟨by rfl, fun w' hw' => by go_simp⟩) hS ?_
      simp only [AP]
      refine wpAnyS_takeL 16 (v := .int .i64 (N : Int)) rfl (by kernel_rfl) (by kernel_rfl) (by kernel_rfl) (fun _ _ _ H => H) (yieldsIf_assign rfl _ rfl (.int .i64 (N : Int)) rfl) hS ?_
      simp only [AP]
      refine wpAnyS_done (by kernel_rfl) ?_ _
      refine aK _ _ ?_
      clear aK
      replace b3 := b3.out
      clear hS
      go_wp2
      refine bodyPost_ret (results_tmp4 rfl _ _) rfl ?_
      exact ⟨_, rfl, OwL.nil _ _, b3⟩
    · rw [if_neg g2] at TM
      rw [TM]
      have z2 : ¬ (n : Int) < (M : Int) := by omega
      have z3 : (4 : Int) ≤ (M : Int) := by omega
      have z4 : (M : Int) ≤ (c : Int) := by omega
      have CL := Lib.hid (fun (w : World) (h : Below W.heap.size W w) => clone_c (r.take N) (tailP (some ⟨g, o, none⟩) c 4) (M - 4) (c - 4) (by omega) w (by
        have h1 := (ST.out.below h).mid 4 M (by omega) (by omega)
        rw [show ((k :: x :: y :: z :: r).take M).drop 4 = r.take N by rw [← hM, Nat.add_comm]; rfl] at h1
        exact h1))
      have nc := Lib.hid (show 4 ≤ M ∧ M ≤ c by omega)
      have HL2 := Lib.hid (And.intro hl.1 (And.intro hl.2 (Nat.le_of_not_lt g2)))
      clear TM g1 g2 hl nb hM
      go_enter Tryd.func8, Tryd.ntmps8
      go_upto_region 3 with fail
      rename_i aK
      have b3 := below_drew (Below.refl W.heap.size W)
      refine wp_region_S (S := fun w' => Below W.heap.size W w') (by kernel_rfl) ?_
      replace b3 := Lib.hid b3
      generalize World.drew W = w1 at *
      have hS := b3.out
      refine wpAnyS_takeL 0 (v := .slice (some ⟨g, o, none⟩) n c) rfl (by kernel_rfl) (by kernel_rfl) (by kernel_rfl) (fun _ _ _ H => H) (yieldsIf_move rfl _ rfl (.slice (some ⟨g, o, none⟩) n c) rfl) hS ?_
      simp only [AP]
      refine wpAnyS_takeL 1 (v := .pointer (some ⟨g, o + 1, none⟩)) rfl (by kernel_rfl) (by kernel_rfl) (by kernel_rfl) (fun _ _ _ H => H) (Or.inl ⟨by rfl, fun w' hw' => by (go_simp)⟩) hS ?_
      simp only [AP]
      refine wpAnyS_takeL 2 (v := .int .u8 (x : Int)) rfl (by kernel_rfl) (by kernel_rfl) (by kernel_rfl) (fun _ _ _ H => H) (Or.inl ⟨by rfl, fun w' hw' => by (have cc := (hw'.cell (p := ⟨g, o + 1, none⟩) gl.out).trans c1; go_simp)⟩) hS ?_
      simp only [AP]
      refine wpAnyS_takeL 3 (v := .int .i64 (x : Int)) rfl (by kernel_rfl) (by kernel_rfl) (by kernel_rfl) (fun _ _ _ H => H) (Or.inl ⟨by rfl, fun w' hw' => by go_simp⟩) hS ?_
      simp only [AP]
      refine wpAnyS_takeL 4 (v := .int .i64 (X : Int)) rfl (by kernel_rfl) (by kernel_rfl) (by kernel_rfl) (fun _ _ _ H => H) (Or.inl ⟨by rfl, fun w' hw' => by go_simp⟩) hS ?_
      simp only [AP]
      refine wpAnyS_takeL 5 (v := .slice (some ⟨g, o, none⟩) n c) rfl (by kernel_rfl) (by kernel_rfl) (by kernel_rfl) (fun _ _ _ H => H) (yieldsIf_move rfl _ rfl (.slice (some ⟨g, o, none⟩) n c) rfl) hS ?_
      simp only [AP]
      refine wpAnyS_takeL 6 (v := .pointer (some ⟨g, o + 2, none⟩)) rfl (by kernel_rfl) (by kernel_rfl) (by kernel_rfl) (fun _ _ _ H => H) (Or.inl ⟨by rfl, fun w' hw' => by (go_simp)⟩) hS ?_
      simp only [AP]
      refine wpAnyS_takeL 7 (v := .int .u8 (y : Int)) rfl (by kernel_rfl) (by kernel_rfl) (by kernel_rfl) (fun _ _ _ H => H) (Or.inl ⟨by rfl, fun w' hw' => by (have cc := (hw'.cell (p := ⟨g, o + 2, none⟩) gl.out).trans c2; go_simp)⟩) hS ?_
      simp only [AP]
      refine wpAnyS_takeL 8 (v := .int .i64 (y : Int)) rfl (by kernel_rfl) (by kernel_rfl) (by kernel_rfl) (fun _ _ _ H => H) (Or.inl ⟨by rfl, fun w' hw' => by go_simp⟩) hS ?_
      simp only [AP]
      refine wpAnyS_takeL 9 (v := .int .i64 (Y : Int)) rfl (by kernel_rfl) (by kernel_rfl) (by kernel_rfl) (fun _ _ _ H => H) (Or.inl ⟨by rfl, fun w' hw' => by go_simp⟩) hS ?_
      simp only [AP]
      refine wpAnyS_takeL 10 (v := .int .i64 (V : Int)) rfl (by kernel_rfl) (by kernel_rfl) (by kernel_rfl) (fun _ _ _ H => H) (Or.inl ⟨by rfl, fun w' hw' => by go_simp⟩) hS ?_
      simp only [AP]
      refine wpAnyS_takeL 11 (v := .slice (some ⟨g, o, none⟩) n c) rfl (by kernel_rfl) (by kernel_rfl) (by kernel_rfl) (fun _ _ _ H => H) (yieldsIf_move rfl _ rfl (.slice (some ⟨g, o, none⟩) n c) rfl) hS ?_
      simp only [AP]
      refine wpAnyS_takeL 12 (v := .pointer (some ⟨g, o + 3, none⟩)) rfl (by kernel_rfl) (by kernel_rfl) (by kernel_rfl) (fun _ _ _ H => H) (Or.inl ⟨by rfl, fun w' hw' => by (go_simp)⟩) hS ?_
      simp only [AP]
      refine wpAnyS_takeL 13 (v := .int .u8 (z : Int)) rfl (by kernel_rfl) (by kernel_rfl) (by kernel_rfl) (fun _ _ _ H => H) (Or.inl ⟨by rfl, fun w' hw' => by (have cc := (hw'.cell (p := ⟨g, o + 3, none⟩) gl.out).trans c3; go_simp)⟩) hS ?_
      simp only [AP]
      refine wpAnyS_takeL 14 (v := .int .i64 (z : Int)) rfl (by kernel_rfl) (by kernel_rfl) (by kernel_rfl) (fun _ _ _ H => H) (Or.inl ⟨by rfl, fun w' hw' => by go_simp⟩) hS ?_
      simp only [AP]
      refine wpAnyS_takeL 15 (v := .int .i64 (N : Int)) rfl (by kernel_rfl) (by kernel_rfl) (by kernel_rfl) (fun _ _ _ H => H) (Or.inl ⟨by rfl, fun w' hw' => by go_simp⟩) hS ?_
      simp only [AP]
      refine wpAnyS_takeL 16 (v := .int .i64 (N : Int)) rfl (by kernel_rfl) (by kernel_rfl) (by kernel_rfl) (fun _ _ _ H => H) (yieldsIf_assign rfl _ rfl (.int .i64 (N : Int)) rfl) hS ?_
      simp only [AP]
      refine wpAnyS_done (by kernel_rfl) ?_ _
      refine aK _ _ ?_
      clear aK
      replace b3 := b3.out
      clear hS
      go_upto_region 9 with fail
      rename_i aK
      replace b3 := b3.trans ((below_drew (Below.refl w1.heap.size w1)).mono b3.size)
      refine wp_region_S (S := fun w' => Below W.heap.size W w') (by kernel_rfl) ?_
      generalize World.drew w1 = w2 at *
      have hS := b3
      refine wpAnyS_takeL 0 (v := .slice (some ⟨g, o, none⟩) n c) rfl (by kernel_rfl) (by kernel_rfl) (by kernel_rfl) (fun _ _ _ H => H) (yieldsIf_move rfl _ rfl (.slice (some ⟨g, o, none⟩) n c) rfl) hS ?_
      simp only [AP]
      refine wpAnyS_takeL 1 (v := .pointer (some ⟨g, o, none⟩)) rfl (by kernel_rfl) (by kernel_rfl) (by kernel_rfl) (fun _ _ _ H => H) (Or.inl ⟨by rfl, fun w' hw' => by (go_simp)⟩) hS ?_
      simp only [AP]
      refine wpAnyS_takeL 2 (v := .int .u8 (k : Int)) rfl (by kernel_rfl) (by kernel_rfl) (by kernel_rfl) (fun _ _ _ H => H) (Or.inl ⟨by rfl, fun w' hw' => by (have cc := (hw'.cell (p := ⟨g, o, none⟩) gl.out).trans c0; go_simp)⟩) hS ?_
      simp only [AP]
      refine wpAnyS_takeL 3 (v := .slice (some ⟨g, o, none⟩) n c) rfl (by kernel_rfl) (by kernel_rfl) (by kernel_rfl) (fun _ _ _ H => H) (yieldsIf_move rfl _ rfl (.slice (some ⟨g, o, none⟩) n c) rfl) hS ?_
      simp only [AP]
      refine wpAnyS_takeL 4 (v := .int .i64 (M : Int)) rfl (by kernel_rfl) (by kernel_rfl) (by kernel_rfl) (fun _ _ _ H => H) (yieldsIf_move rfl _ rfl (.int .i64 (M : Int)) rfl) hS ?_
      simp only [AP]
      refine wpAnyS_takeL 5 (v := .slice (tailP (some ⟨g, o, none⟩) c 4) (M - 4) (c - 4)) rfl (by kernel_rfl) (by kernel_rfl) (by kernel_rfl) (fun _ _ _ H => H) (yieldsIf_mid rfl _ _ _ rfl (some ⟨g, o, none⟩) n c 4 M rfl rfl rfl nc.out.1 nc.out.2) hS ?_
      simp only [AP]
      refine wpAnyS_takeL 7 (v := .int .i64 (M : Int)) rfl (by kernel_rfl) (by kernel_rfl) (by kernel_rfl) (fun _ _ _ H => H) (yieldsIf_move rfl _ rfl (.int .i64 (M : Int)) rfl) hS ?_
      simp only [AP]
      clear hS
      refine gstep 6 rfl rfl (by kernel_rfl) ?_
      unfold Oper.wp execOp
      go_simp
      refine (CL.out w2 b3).mono ?_
      rintro _ w3 ⟨v3, rfl, O3, b4⟩
      replace O3 := O3.mono b3.size
      have hS : Below W.heap.size W w3 := b3.trans (b4.mono b3.size)
      clear CL b3 b4
      refine ⟨hS, ?_⟩
      refine wpAnyS_takeL 8 (v := .int .u8 (k : Int)) rfl (by kernel_rfl) (by kernel_rfl) (by kernel_rfl) (fun _ _ _ H => H) (yieldsIf_assign rfl _ rfl (.int .u8 (k : Int)) rfl) hS ?_
      simp only [AP]
      refine wpAnyS_takeL 9 (v := v3) rfl (by kernel_rfl) (by kernel_rfl) (by kernel_rfl) (fun _ _ _ H => H) (yieldsIf_assign rfl _ rfl (v3) rfl) hS ?_
      simp only [AP]
      refine wpAnyS_takeL 10 (v := .int .i64 (M : Int)) rfl (by kernel_rfl) (by kernel_rfl) (by kernel_rfl) (fun _ _ _ H => H) (yieldsIf_assign rfl _ rfl (.int .i64 (M : Int)) rfl) hS ?_
      simp only [AP]
      refine wpAnyS_takeL 11 (v := .int .i64 0) rfl (by kernel_rfl) (by kernel_rfl) (by kernel_rfl) (fun _ _ _ H => H) (yieldsIf_assign rfl _ rfl (.int .i64 0) rfl) hS ?_
      simp only [AP]
      refine wpAnyS_done (by kernel_rfl) ?_ _
      refine aK _ _ ?_
      clear aK
      go_wp2
      refine bodyPost_ret (results_tmp4 rfl _ _) rfl ?_
      exact ⟨_, rfl, O3, hS⟩
theorem take_c (l : List Nat) (bl : Bytes l) (hl : l.length ≤ 1000000) (p : Option Addr) (n c : Nat) (W : World) (hs : SB W (.slice p n c) l) :
    Calls Tryd.prog 8 #[.slice p n c] W (TakePost l W) := by
  match l, bl, hl, hs with
  | k :: x :: y :: z :: r, bl, hl, hs =>
    have b0 := bl k (by simp)
    have b1 := bl x (by simp)
    have b2 := bl y (by simp)
    have b3 := bl z (by simp)
    have hr : r.length ≤ 10000000 := by simp only [List.length_cons] at hl; omega
    rcases hs.at_ with h0 | ⟨g, o, rfl, A⟩
    · have := hs.len.1
      simp only [List.length_cons] at this
      omega
    · exact take_four k x y z r b0 b1 b2 b3 hr g o n c W hs
  | [], _, _, hs => exact take_short4 _ (by decide) p n c W hs
  | [_], _, _, hs => exact take_short4 _ (Nat.le_of_ble_eq_true rfl) p n c W hs
  | [_, _], _, _, hs => exact take_short4 _ (Nat.le_of_ble_eq_true rfl) p n c W hs
  | [_, _, _], _, _, hs => exact take_short4 _ (Nat.le_of_ble_eq_true rfl) p n c W hs
end Go.Proofs.YtegbnadnodlalaaDoor
namespace Go.Proofs.YtegbnadnodlalaaDoor
open Go.RowKit
theorem gb_set {B g : Nat} (hg : B = g) (w : World) (i : Nat) (v : Value) : w.grownBy (w.setCell ⟨g, i, none⟩ v) (some B) := by
  subst hg
  exact ⟨rfl, rfl, rfl, by simp, fun k _ hk => Below.heap_setCell w _ v k (fun e => hk (by rw [e]))⟩
/-- A Reader at p, its block B: l is left, c the fault. -/
def RM (B : Nat) (w : World) (p : Option Addr) (l : List Nat) (c : Nat) : Prop := ∃ g pb cb, p = some ⟨g, 0, none⟩ ∧ B = g ∧ Blk w g 84 #[.slice pb l.length cb, .int .i64 ((c : Nat) : Int)] ∧ SB w (.slice pb l.length cb) l ∧ (∀ a, pb = some a → a.block < g) ∧ (∀ x ∈ l, x < 256) ∧ l.length ≤ 1000000
theorem RM.below {B : Nat} {w w' : World} {p : Option Addr} {l : List Nat} {c : Nat} (h : RM B w p l c) (b : Below w.heap.size w w') : RM B w' p l c := by
  obtain ⟨g, pb, cb, e, hg, K, S, ne, bb, ll⟩ := h
  exact ⟨g, pb, cb, e, hg, K.below' b, S.below b, ne, bb, ll⟩
theorem SB.far {w : World} {g : Nat} {p : Option Addr} {n c : Nat} {l : List Nat} (h : SB w (.slice p n c) l) (ne : ∀ a, p = some a → a.block ≠ g) (i : Nat) (v : Value) : SB (w.setCell ⟨g, i, none⟩ v) (.slice p n c) l := by
  obtain ⟨q, d, e, hc, h0 | ⟨gb, o, rfl, A⟩⟩ := h
  · exact ⟨q, d, e, hc, Or.inl h0⟩
  · simp only [Value.slice.injEq] at e
    obtain ⟨rfl, rfl, rfl⟩ := e
    exact ⟨_, _, rfl, hc, Or.inr ⟨gb, o, rfl, A.of_block (heap_setCell_other w _ gb v (ne _ rfl))⟩⟩
end Go.Proofs.YtegbnadnodlalaaDoor
