/- The reference's sum: the upper halves of a table, in a row (loop 1). -/
import Derived.Test.YtpihgljdbpnehaaDoorNf0KQb
namespace Go.Proofs.YtpihgljdbpnehaaDoor
open Go.RowKit
def kbase1 (bv rv tv : Value) : List (Nat × Value) := [(0, bv), (1, .int .i64 32), (2, rv), (7, .int .i64 4), (8, .int .i64 64), (9, tv)]
set_option maxHeartbeats 4000000 in
set_option maxRecDepth 100000 in
theorem loop1_any (cu sq : Nat → Nat) (w0 : World) (bv rv tv : Value) (R : Ref w0 cu sq) {Q : Exit → Act → World → Prop} (a : Act) (h : Has 380 ((12, .int .i64 0) :: (10, .slice none 0 0) :: kbase1 bv rv tv) a)
    (hexit : ∀ a' w' v, Has 380 ((10, v) :: kbase1 bv rv tv) a' → OwQ w0.heap.size w' v (half sq 8) → Below w0.heap.size w0 w' → Q (.exit 2) a' w') : Code.wp Tryd.prog (.loop (sumLoop 1)) Q a w0 := by
  refine wp_loop (fun a' w' => ∃ (k : Nat) (v : Value), k ≤ 8 ∧ Has 380 ((12, .int .i64 (k : Int)) :: (10, v) :: kbase1 bv rv tv) a' ∧ OwQ w0.heap.size w' v (half sq k) ∧ Below w0.heap.size w0 w') (fun a' _ => 8 - (intOf (a'.tmps.getD 12 undef)).toNat) ?_ ?_
  · exact ⟨0, _, Nat.zero_le _, h, OwQ.nil _ _, Below.refl _ _⟩
  clear h a
  rintro a w ⟨k, v, hk, h, O, B⟩
  have hm : a.tmps.getD 12 undef = .int .i64 (k : Int) := h.val 12 _ rfl
  generalize a.tmps.getD 12 undef = x at hm ⊢
  subst hm
  have RR := R.below B
  conv => arg 2; whnf
  refine wp_seq (wp_seq ?_)
  refine wp_region_seq ?_
  obtain ⟨p, c, rfl⟩ := O.shape
  have lh := half_length sq k
  by_cases hlt : k < 8
  · have l0 : (k : Int) < 8 := by omega
    have l1 : (0 : Int) ≤ (k : Int) := by omega
    have l2 : (k : Int) < 8 := by omega
    have c1 := RR.c2 k (by omega)
    have c2 := RR.lsq k
    refine seqM h 50 12 rfl rfl rfl rfl rfl ?_
    clear h
    intro a h
    refine seqH h 51 (Value.bool true) rfl rfl (Or.inl ⟨rfl, fun w' hw' => by
        subst hw'
        have e50 : a.eval (.tmp 50) = _ := h.ev 50 rfl
        simp only [execOp, e50]
        go_simp⟩) ?_
    clear h
    intro a h
    refine wpSeq_nil ?_
    show Code.wp _ _ _ _ _
    refine wp_cond (t := true) (h.ev 51 rfl) ?_
    refine wp_skip ?_
    show Code.wp _ _ _ _ _
    refine wp_seq (wp_block ?_)
    refine wp_region_seq ?_
    have w32 : IntKind.i64.wrap 32 = 32 := by rw [IntKind.wrap_i64]; rfl
    refine seqM h 54 10 rfl rfl rfl rfl rfl ?_
    clear h
    intro a h
    refine seqM h 55 12 rfl rfl rfl rfl rfl ?_
    clear h
    intro a h
    refine seqH h 56 (Value.pointer (some ⟨1, k, none⟩)) rfl rfl (Or.inl ⟨rfl, fun w' hw' => by
        subst hw'
        have e55 : a.eval (.tmp 55) = _ := h.ev 55 rfl
        simp only [execOp, e55]
        go_simp⟩) ?_
    clear h
    intro a h
    refine seqH h 57 (Value.int .u64 ((sq k : Nat) : Int)) rfl rfl (Or.inl ⟨rfl, fun w' hw' => by
        subst hw'
        have e56 : a.eval (.tmp 56) = _ := h.ev 56 rfl
        simp only [execOp, e56]
        go_simp⟩) ?_
    clear h
    intro a h
    refine seqM h 58 1 rfl rfl rfl rfl rfl ?_
    clear h
    intro a h
    refine seqH h 59 (Value.int .i64 32) rfl rfl (Or.inl ⟨rfl, fun w' hw' => by
        subst hw'
        have e58 : a.eval (.tmp 58) = _ := h.ev 58 rfl
        simp only [execOp, e58]
        go_simp⟩) ?_
    clear h
    intro a h
    refine seqH h 60 (Value.int .u64 (((sq k : Nat) : Int) / 4294967296)) rfl rfl (Or.inl ⟨rfl, fun w' hw' => by
        subst hw'
        have e57 : a.eval (.tmp 57) = _ := h.ev 57 rfl
        have e59 : a.eval (.tmp 59) = _ := h.ev 59 rfl
        simp only [execOp, e57, e59]
        go_simp⟩) ?_
    clear h
    intro a h
    have b7 : Below w.heap.size w (w.alloc (.cells #[.int .u64 (((sq k : Nat) : Int) / 4294967296)] 38)) := (Below.refl _ _).alloc (Nat.le_refl _) _
    have W7 := word_row w (sq k / 4294967296)
    rw [show ((sq k / 4294967296 : Nat) : Int) = (((sq k : Nat) : Int) / 4294967296) by omega] at W7
    refine seqW h 61 (.slice (some ⟨w.heap.size, 0, none⟩) 1 1) (w.alloc (.cells #[.int .u64 (((sq k : Nat) : Int) / 4294967296)] 38)) rfl rfl rfl (fun K hK => by
      have e1 := h.at_ 60 rfl
      unfold Oper.wp execOp
      go_simp
      exact hK) ?_
    clear h
    intro a h
    obtain ⟨v8, w8, r8, O8, g8, o8⟩ := append_q w0.heap.size _ 105 _ (half sq k) [sq k / 4294967296] (O.below b7) w.heap.size 1 1 W7 rfl (by rw [lh]; simp; omega) (by have := B.size; simp; omega)
    have B8 : Below w0.heap.size w0 w8 := below_grown' (B.trans (b7.mono B.size)) g8 (fun j hj => ((O.below b7).lt j hj).1) (by have := B.size; simp; omega)
    rw [← half_succ] at O8
    refine seqW h 62 v8 w8 rfl rfl rfl (fun K hK => wp_append_run _ _ _ _ rfl _ _ (h.ev 54 rfl) (h.ev 61 rfl) _ _ r8 hK) ?_
    clear h
    intro a h
    refine seqA h 10 62 rfl rfl rfl rfl rfl ?_
    clear h
    intro a h
    refine wpSeq_nil ?_
    show Code.wp _ _ _ _ _
    refine wp_region_seq ?_
    have ew : IntKind.i64.wrap ((k : Int) + 1) = (k : Int) + 1 := by rw [IntKind.wrap_i64]; omega
    refine seqM h 52 12 rfl rfl rfl rfl rfl ?_
    clear h
    intro a h
    refine seqH h 53 (Value.int .i64 ((k : Int) + 1)) rfl rfl (Or.inl ⟨rfl, fun w' hw' => by
        subst hw'
        have e52 : a.eval (.tmp 52) = _ := h.ev 52 rfl
        simp only [execOp, e52]
        go_simp⟩) ?_
    clear h
    intro a h
    refine seqA h 12 53 rfl rfl rfl rfl rfl ?_
    clear h
    intro a h
    refine wpSeq_nil ?_
    refine ⟨⟨k + 1, v8, by omega, h.trim _ ?_, O8, B8⟩, ?_⟩
    · intro p hp
      simp only [kbase1, List.mem_cons, List.not_mem_nil, or_false] at hp
      rcases hp with rfl | rfl | rfl | rfl | rfl | rfl | rfl | rfl <;> rfl
    · have hm2 : a.tmps.getD 12 undef = .int .i64 ((k + 1 : Nat) : Int) := h.val 12 _ rfl
      rw [hm2]
      simp only [intOf]
      omega
  · have l0 : ¬ ((k : Int) < 8) := by omega
    obtain rfl : k = 8 := by omega
    refine seqM h 50 12 rfl rfl rfl rfl rfl ?_
    clear h
    intro a h
    refine seqH h 51 (Value.bool false) rfl rfl (Or.inl ⟨rfl, fun w' hw' => by
        subst hw'
        have e50 : a.eval (.tmp 50) = _ := h.ev 50 rfl
        simp only [execOp, e50]
        go_simp⟩) ?_
    clear h
    intro a h
    refine wpSeq_nil ?_
    show Code.wp _ _ _ _ _
    refine wp_cond (t := false) (h.ev 51 rfl) ?_
    refine wp_exit ?_
    refine hexit _ _ _ (h.trim _ ?_) O B
    intro p hp
    simp only [kbase1, List.mem_cons, List.not_mem_nil, or_false] at hp
    rcases hp with rfl | rfl | rfl | rfl | rfl | rfl | rfl <;> rfl
end Go.Proofs.YtpihgljdbpnehaaDoor
