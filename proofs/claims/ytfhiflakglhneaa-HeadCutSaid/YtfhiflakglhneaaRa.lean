/- The program's copies of bytes; sizes and rooms of short numbers. -/
import Derived.Test.YtfhiflakglhneaaYa
import Derived.Test.YtfhiflakglhneaaLq
import Derived.Lib.SliceRun
namespace Go.Proofs.Ytfhiflakglhneaa
open Go.RowKit

set_option maxHeartbeats 4000000 in
set_option maxRecDepth 100000 in
theorem clone_c (l : List Nat) (p : Option Addr) (n c : Nat) (hn : n ≤ 10000000) (W : World) (hs : SB W (.slice p n c) l) :
    Calls Try.prog 24 #[.slice p n c] W fun e w' => ∃ v, e = .returned v ∧ OwL W.heap.size w' v l ∧ Below W.heap.size W w' := by
  have q22 : ∀ (w : World) (a : Option Addr) (n c n' c' : Nat), (binOp .eql 29 (.slice a n c) (.slice none n' c')).run Try.prog w = .ok (.bool a.isNone) w := fun w a n c n' c' => Lib.run_eql_slice_nil w _ _ a n c n' c' Try.underlying29
  cases p with
  | none =>
    have hl : l = [] := by
      rcases hs.at_ with h0 | ⟨g, o, e, _⟩
      · exact List.length_eq_zero_iff.1 (by have := hs.len.1; omega)
      · cases e
    subst hl
    clear hs hn
    go_enter Try.func24, Try.ntmps24
    go_wp2
    go_ret
    exact ⟨_, rfl, OwL.nil _ _, Below.refl _ _⟩
  | some a =>
    have b0 := (Below.refl W.heap.size W).alloc (Nat.le_refl _) (.cells #[] 5)
    obtain ⟨v1, w1, h1, O1, g1, _⟩ := append_sb W.heap.size _ 29 _ (.slice (some a) n c) [] l (OwL.new W.heap.size W [] (Nat.le_refl _) (Nat.zero_le _)) (hs.below b0) (by have := hs.len.1; simp only [List.length_nil]; omega) b0.size
    rw [List.nil_append] at O1
    have b1 := below_grown' b0 g1 (fun j e => by have e' := Option.some.inj e; dsimp only at e'; omega) b0.size
    clear g1 b0 hs hn
    go_enter Try.func24, Try.ntmps24
    go_upto_region 3 with fail
    rename_i aK
    refine wp_region_seq ?_
    refine wpSeq_wp rfl (wp_build_run _ rfl _ _ (run_buildSlice_none _) ?_)
    simp only [AP]
    refine wpSeq_yield (S := fun _ => True) (yieldsIf_move rfl _ rfl (.slice (some a) n c) rfl) trivial ?_
    simp only [AP]
    refine wpSeq_wp rfl (wp_append_run _ _ _ _ rfl _ _ rfl rfl _ w1 h1 ?_)
    simp only [AP]
    refine wpSeq_yield (S := fun _ => True) (yieldsIf_assign rfl _ rfl (v1) rfl) trivial ?_
    simp only [AP]
    refine wpSeq_nil ?_
    refine aK _ _ ?_
    clear aK h1
    go_wp2
    go_ret
    exact ⟨_, rfl, O1, b1⟩
def Q4 (k s r : Nat) : Prop := (k = 0 ∧ s = 1 ∧ r = 6) ∨ (k = 1 ∧ s = 2 ∧ r = 14) ∨ (k = 2 ∧ s = 4 ∧ r = 30) ∨ (k = 3 ∧ s = 8 ∧ r = 62)
theorem Q4.of (k : Nat) (h : k ≤ 3) : Q4 k (2 ^ k) (8 * 2 ^ k - 2) := by
  have h4 : k = 0 ∨ k = 1 ∨ k = 2 ∨ k = 3 := by omega
  rcases h4 with rfl | rfl | rfl | rfl <;> (unfold Q4; decide)
theorem size_c {k s r : Nat} (q : Q4 k s r) (W : World) : Calls Try.prog 32 #[.int .i64 (k : Int)] W fun e w' => e = .returned (.int .i64 (s : Int)) ∧ w' = W := by
  rcases q with ⟨rfl, rfl, rfl⟩ | ⟨rfl, rfl, rfl⟩ | ⟨rfl, rfl, rfl⟩ | ⟨rfl, rfl, rfl⟩ <;>
  · go_enter Try.func32, Try.ntmps32
    go_wp2
    go_ret
    exact ⟨rfl, rfl⟩
theorem room_c {k s r : Nat} (q : Q4 k s r) (W : World) : Calls Try.prog 33 #[.int .i64 (k : Int)] W fun e w' => e = .returned (.int .i64 (r : Int)) ∧ w' = W := by
  have C := Lib.hid (size_c q W)
  rcases q with ⟨rfl, rfl, rfl⟩ | ⟨rfl, rfl, rfl⟩ | ⟨rfl, rfl, rfl⟩ | ⟨rfl, rfl, rfl⟩ <;>
  · go_enter Try.func33, Try.ntmps33
    go_wp2_with fail
    refine C.out.mono ?_
    rintro _ w1 ⟨rfl, rfl⟩
    go_wp2
    go_ret
    exact ⟨rfl, rfl⟩
end Go.Proofs.Ytfhiflakglhneaa
