/- The reference's sum: the upper halves of a table, in a row (loop 0). -/
import Derived.Test.YtjkocockbglenaaDoorQa
namespace Go.Proofs.YtjkocockbglenaaDoor
open Go.RowKit

def base0 (bv rv : Value) : List (Nat × Value) := [(0, bv), (1, .int .i64 32), (2, rv), (7, .int .i64 4), (8, .int .i64 64), (10, .slice none 0 0)]
def half (f : Nat → Nat) (k : Nat) : List Nat := (List.range k).map fun i => f i / 4294967296
theorem half_length (f : Nat → Nat) (k : Nat) : (half f k).length = k := by simp [half]
theorem half_succ (f : Nat → Nat) (k : Nat) : half f (k + 1) = half f k ++ [f k / 4294967296] := by simp [half, List.range_succ]
set_option maxHeartbeats 4000000 in
set_option maxRecDepth 100000 in
theorem loop0_any (cu sq : Nat → Nat) (w0 : World) (bv rv : Value) (R : Ref w0 cu sq) {Q : Exit → Act → World → Prop} (a : Act) (h : Has 380 ((11, .int .i64 0) :: (9, .slice none 0 0) :: base0 bv rv) a)
    (hexit : ∀ a' w' v, Has 380 ((9, v) :: base0 bv rv) a' → OwQ w0.heap.size w' v (half cu 64) → Below w0.heap.size w0 w' → Q (.exit 0) a' w') : Code.wp Tryd.prog (.loop (sumLoop 0)) Q a w0 := by
  refine wp_loop (fun a' w' => ∃ (k : Nat) (v : Value), k ≤ 64 ∧ Has 380 ((11, .int .i64 (k : Int)) :: (9, v) :: base0 bv rv) a' ∧ OwQ w0.heap.size w' v (half cu k) ∧ Below w0.heap.size w0 w') (fun a' _ => 64 - (intOf (a'.tmps.getD 11 undef)).toNat) ?_ ?_
  · exact ⟨0, _, Nat.zero_le _, h, OwQ.nil _ _, Below.refl _ _⟩
  clear h a
  rintro a w ⟨k, v, hk, h, O, B⟩
  have hm : a.tmps.getD 11 undef = .int .i64 (k : Int) := h.val 11 _ rfl
  generalize a.tmps.getD 11 undef = x at hm ⊢
  subst hm
  have RR := R.below B
  conv => arg 2; whnf
  refine wp_seq (wp_seq ?_)
  refine wp_region_seq ?_
  obtain ⟨p, c, rfl⟩ := O.shape
  have lh := half_length cu k
  by_cases hlt : k < 64
  · have l0 : (k : Int) < 64 := by omega
    have l1 : (0 : Int) ≤ (k : Int) := by omega
    have l2 : (k : Int) < 80 := by omega
    have c1 := RR.c3 k (by omega)
    have c2 := RR.lcu k
    refine seqM h 36 11 rfl rfl rfl rfl rfl ?_
    clear h
    intro a h
    refine seqM h 37 8 rfl rfl rfl rfl rfl ?_
    clear h
    intro a h
    refine seqH h 38 (Value.bool true) rfl rfl (Or.inl ⟨rfl, fun w' hw' => by
        subst hw'
        have e36 : a.eval (.tmp 36) = _ := h.ev 36 rfl
        have e37 : a.eval (.tmp 37) = _ := h.ev 37 rfl
        simp only [execOp, e36, e37]
        go_simp⟩) ?_
    clear h
    intro a h
    refine wpSeq_nil ?_
    show Code.wp _ _ _ _ _
    refine wp_cond (t := true) (h.ev 38 rfl) ?_
    refine wp_skip ?_
    show Code.wp _ _ _ _ _
    refine wp_seq (wp_block ?_)
    refine wp_region_seq ?_
    have w32 : IntKind.i64.wrap 32 = 32 := by rw [IntKind.wrap_i64]; rfl
    refine seqM h 41 9 rfl rfl rfl rfl rfl ?_
    clear h
    intro a h
    refine seqM h 42 11 rfl rfl rfl rfl rfl ?_
    clear h
    intro a h
    refine seqH h 43 (Value.pointer (some ⟨1, k, none⟩)) rfl rfl (Or.inl ⟨rfl, fun w' hw' => by
        subst hw'
        have e42 : a.eval (.tmp 42) = _ := h.ev 42 rfl
        simp only [execOp, e42]
        go_simp⟩) ?_
    clear h
    intro a h
    refine seqH h 44 (Value.int .u64 ((cu k : Nat) : Int)) rfl rfl (Or.inl ⟨rfl, fun w' hw' => by
        subst hw'
        have e43 : a.eval (.tmp 43) = _ := h.ev 43 rfl
        simp only [execOp, e43]
        go_simp⟩) ?_
    clear h
    intro a h
    refine seqM h 45 1 rfl rfl rfl rfl rfl ?_
    clear h
    intro a h
    refine seqH h 46 (Value.int .i64 32) rfl rfl (Or.inl ⟨rfl, fun w' hw' => by
        subst hw'
        have e45 : a.eval (.tmp 45) = _ := h.ev 45 rfl
        simp only [execOp, e45]
        go_simp⟩) ?_
    clear h
    intro a h
    refine seqH h 47 (Value.int .u64 (((cu k : Nat) : Int) / 4294967296)) rfl rfl (Or.inl ⟨rfl, fun w' hw' => by
        subst hw'
        have e44 : a.eval (.tmp 44) = _ := h.ev 44 rfl
        have e46 : a.eval (.tmp 46) = _ := h.ev 46 rfl
        simp only [execOp, e44, e46]
        go_simp⟩) ?_
    clear h
    intro a h
    have b7 : Below w.heap.size w (w.alloc (.cells #[.int .u64 (((cu k : Nat) : Int) / 4294967296)] 51)) := (Below.refl _ _).alloc (Nat.le_refl _) _
    have W7 := word_row w (cu k / 4294967296)
    rw [show ((cu k / 4294967296 : Nat) : Int) = (((cu k : Nat) : Int) / 4294967296) by omega] at W7
    refine seqW h 48 (.slice (some ⟨w.heap.size, 0, none⟩) 1 1) (w.alloc (.cells #[.int .u64 (((cu k : Nat) : Int) / 4294967296)] 51)) rfl rfl rfl (fun K hK => by
      have e1 := h.at_ 47 rfl
      unfold Oper.wp execOp
      go_simp
      exact hK) ?_
    clear h
    intro a h
    obtain ⟨v8, w8, r8, O8, g8, o8⟩ := append_q w0.heap.size _ 57 _ (half cu k) [cu k / 4294967296] (O.below b7) w.heap.size 1 1 W7 rfl (by rw [lh]; simp; omega) (by have := B.size; simp; omega)
    have B8 : Below w0.heap.size w0 w8 := below_grown' (B.trans (b7.mono B.size)) g8 (fun j hj => ((O.below b7).lt j hj).1) (by have := B.size; simp; omega)
    rw [← half_succ] at O8
    refine seqW h 49 v8 w8 rfl rfl rfl (fun K hK => wp_append_run _ _ _ _ rfl _ _ (h.ev 41 rfl) (h.ev 48 rfl) _ _ r8 hK) ?_
    clear h
    intro a h
    refine seqA h 9 49 rfl rfl rfl rfl rfl ?_
    clear h
    intro a h
    refine wpSeq_nil ?_
    show Code.wp _ _ _ _ _
    refine wp_region_seq ?_
    have ew : IntKind.i64.wrap ((k : Int) + 1) = (k : Int) + 1 := by rw [IntKind.wrap_i64]; omega
    refine seqM h 39 11 rfl rfl rfl rfl rfl ?_
    clear h
    intro a h
    refine seqH h 40 (Value.int .i64 ((k : Int) + 1)) rfl rfl (Or.inl ⟨rfl, fun w' hw' => by
        subst hw'
        have e39 : a.eval (.tmp 39) = _ := h.ev 39 rfl
        simp only [execOp, e39]
        go_simp⟩) ?_
    clear h
    intro a h
    refine seqA h 11 40 rfl rfl rfl rfl rfl ?_
    clear h
    intro a h
    refine wpSeq_nil ?_
    refine ⟨⟨k + 1, v8, by omega, h.trim _ ?_, O8, B8⟩, ?_⟩
    · intro p hp
      simp only [base0, List.mem_cons, List.not_mem_nil, or_false] at hp
      rcases hp with rfl | rfl | rfl | rfl | rfl | rfl | rfl | rfl <;> rfl
    · have hm2 : a.tmps.getD 11 undef = .int .i64 ((k + 1 : Nat) : Int) := h.val 11 _ rfl
      rw [hm2]
      simp only [intOf]
      omega
  · have l0 : ¬ ((k : Int) < 64) := by omega
    obtain rfl : k = 64 := by omega
    refine seqM h 36 11 rfl rfl rfl rfl rfl ?_
    clear h
    intro a h
    refine seqM h 37 8 rfl rfl rfl rfl rfl ?_
    clear h
    intro a h
    refine seqH h 38 (Value.bool false) rfl rfl (Or.inl ⟨rfl, fun w' hw' => by
        subst hw'
        have e36 : a.eval (.tmp 36) = _ := h.ev 36 rfl
        have e37 : a.eval (.tmp 37) = _ := h.ev 37 rfl
        simp only [execOp, e36, e37]
        go_simp⟩) ?_
    clear h
    intro a h
    refine wpSeq_nil ?_
    show Code.wp _ _ _ _ _
    refine wp_cond (t := false) (h.ev 38 rfl) ?_
    refine wp_exit ?_
    refine hexit _ _ _ (h.trim _ ?_) O B
    intro p hp
    simp only [base0, List.mem_cons, List.not_mem_nil, or_false] at hp
    rcases hp with rfl | rfl | rfl | rfl | rfl | rfl | rfl <;> rfl
end Go.Proofs.YtjkocockbglenaaDoor
