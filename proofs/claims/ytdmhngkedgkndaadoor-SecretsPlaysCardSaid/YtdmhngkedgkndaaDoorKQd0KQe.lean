/- The reference's sum: noughts and the length behind the bytes (loops 2 and 3). The reference's sum: bits of words kept in 64; rows of words by a function. -/
import Derived.Test.YtdmhngkedgkndaaDoorKQa0KQc
namespace Go.Proofs.YtdmhngkedgkndaaDoor
open Go.RowKit
def baseM (pb : Option Addr) (n cb : Nat) (rv tv hv : Value) : List (Nat × Value) := [(0, .slice pb n cb), (1, .int .i64 32), (2, rv), (7, .int .i64 4), (8, .int .i64 64), (9, tv), (10, hv)]
theorem grown_trans' {a b c : World} {v u : Value} (h : a.grownBy b v.ownBlock) (k : b.grownBy c u.ownBlock) (hu : u.ownBlock = v.ownBlock ∨ ∀ g, u.ownBlock = some g → a.heap.size ≤ g) : a.grownBy c v.ownBlock := by
  refine ⟨k.os.trans h.os, k.tape.trans h.tape, k.output.trans h.output, Nat.le_trans h.size k.size, fun i hi hne => (k.block i (Nat.lt_of_lt_of_le hi h.size) (fun e => ?_)).trans (h.block i hi hne)⟩
  rcases hu with hu | hu
  · exact hne (e.trans hu)
  · have := hu i e.symm
    omega
theorem own_or {a b : World} {v v' u : Value} (h : a.heap.size ≤ b.heap.size) (hv : v.ownBlock = u.ownBlock ∨ ∀ g, v.ownBlock = some g → a.heap.size ≤ g) (ho : v'.ownBlock = v.ownBlock ∨ v'.ownBlock = some b.heap.size) : v'.ownBlock = u.ownBlock ∨ ∀ g, v'.ownBlock = some g → a.heap.size ≤ g := by
  rcases ho with ho | ho
  · rcases hv with hv | hv
    · exact Or.inl (ho.trans hv)
    · exact Or.inr fun g hg => hv g (ho ▸ hg)
  · refine Or.inr fun g hg => ?_
    rw [ho] at hg
    cases hg
    exact h
/-- The bytes, the first one behind them, k noughts. -/
def msgK (l : List Nat) (k : Nat) : List Nat := l ++ [128] ++ List.replicate k 0
theorem msgK_length (l : List Nat) (k : Nat) : (msgK l k).length = l.length + 1 + k := by simp [msgK]; omega
theorem msgK_succ (l : List Nat) (k : Nat) : msgK l k ++ [0] = msgK l (k + 1) := by simp [msgK, List.replicate_succ']
/-- Then k bytes of the length. -/
def lenK (l : List Nat) (k : Nat) : List Nat := msgK l (roomOf l.length - 9) ++ (List.range k).map fun i => lenAt l.length (7 - i)
theorem lenK_length (l : List Nat) (k : Nat) : (lenK l k).length = l.length + (roomOf l.length - 8) + k := by
  have := roomOf_lo l.length
  simp [lenK, msgK]
  omega
theorem lenK_succ (l : List Nat) (k : Nat) : lenK l k ++ [lenAt l.length (7 - k)] = lenK l (k + 1) := by simp [lenK, List.range_succ]
theorem lenK_full (l : List Nat) : lenK l 8 = padded l := by
  unfold lenK msgK padded
  rw [List.append_assoc, List.append_assoc]
  congr 1
  have r := roomOf_lo l.length
  have r2 := roomOf_hi l.length
  apply List.ext_getElem
  · simp [endL]; omega
  intro i h1 h2
  simp only [endL, List.length_map, List.length_range] at h2
  simp only [endL, List.getElem_map, List.getElem_range]
  unfold endK
  by_cases h0 : i = 0
  · subst h0
    rfl
  · rw [if_neg h0, List.getElem_append_right (by simp; omega)]
    by_cases hz : i < roomOf l.length - 8
    · rw [List.getElem_append_left (by simp; omega), List.getElem_replicate, if_neg (by omega)]
    · rw [List.getElem_append_right (by simp; omega)]
      simp only [List.length_cons, List.length_nil, List.length_replicate, List.getElem_map, List.getElem_range]
      rw [if_pos (by omega)]
      congr 1
      omega
set_option maxHeartbeats 4000000 in
set_option maxRecDepth 100000 in
theorem loop2_any (B : Nat) (w0 : World) (l : List Nat) (pb : Option Addr) (cb : Nat) (rv tv hv v0 : Value) (ll : l.length < 1000000) {Q : Exit → Act → World → Prop} (a : Act) (h : Has 380 ((13, v0) :: baseM pb l.length cb rv tv hv) a) (O0 : OwL B w0 v0 (msgK l 0)) (hB : B ≤ w0.heap.size)
    (hexit : ∀ a' w' v, Has 380 ((13, v) :: baseM pb l.length cb rv tv hv) a' → OwL B w' v (msgK l (roomOf l.length - 9)) → w0.grownBy w' v0.ownBlock → (v.ownBlock = v0.ownBlock ∨ ∀ g, v.ownBlock = some g → w0.heap.size ≤ g) → Q (.exit 4) a' w') : Code.wp Tryd.prog (.loop (sumLoop 2)) Q a w0 := by
  have r1 := roomOf_lo l.length
  have r2 := roomOf_hi l.length
  refine wp_loop (fun a' w' => ∃ (k : Nat) (v : Value), k ≤ roomOf l.length - 9 ∧ Has 380 ((13, v) :: baseM pb l.length cb rv tv hv) a' ∧ OwL B w' v (msgK l k) ∧ w0.grownBy w' v0.ownBlock ∧ (v.ownBlock = v0.ownBlock ∨ ∀ g, v.ownBlock = some g → w0.heap.size ≤ g)) (fun a' _ => 1000 - (lenV (a'.tmps.getD 13 undef) - l.length)) ?_ ?_
  · exact ⟨0, v0, Nat.zero_le _, h, O0, ⟨rfl, rfl, rfl, Nat.le_refl _, fun _ _ _ => rfl⟩, Or.inl rfl⟩
  clear h a O0
  rintro a w ⟨k, v, hk, h, O, G, V⟩
  have ln := msgK_length l k
  obtain ⟨M, hM⟩ : ∃ M, M = l.length + 1 + k := ⟨_, rfl⟩
  rw [← hM] at ln
  have HM := Lib.hid hM
  obtain ⟨p, c, e, _⟩ := O.sb
  rw [ln] at e
  have hm : a.tmps.getD 13 undef = v := h.val 13 _ rfl
  generalize a.tmps.getD 13 undef = x at hm ⊢
  subst hm
  subst e
  conv => arg 2; whnf
  refine wp_seq (wp_seq ?_)
  refine wp_region_seq ?_
  have w1 : IntKind.i64.wrap 64 = 64 := by rw [IntKind.wrap_i64]; rfl
  have w2 : IntKind.i64.wrap 56 = 56 := by rw [IntKind.wrap_i64]; rfl
  have cM : (k < roomOf l.length - 9) ↔ ¬ (M % 64 = 56) := by
    have r3 := roomOf_mod l.length
    omega
  clear hM
  have t1 : (M : Int).tmod 64 = (M : Int) % 64 := rfl
  by_cases hlt : k < roomOf l.length - 9
  · have l0 : ¬ ((M : Int) % 64 = 56) := by have := cM.1 hlt; omega
    refine seqM h 68 13 rfl rfl rfl rfl rfl ?_
    clear h
    intro a h
    refine seqH h 69 (Value.int .i64 (M : Int)) rfl rfl (Or.inl ⟨rfl, fun w' hw' => by
        subst hw'
        have e68 : a.eval (.tmp 68) = _ := h.ev 68 rfl
        have f68 := h.at_ 68 rfl
        simp only [execOp]
        go_simp⟩) ?_
    clear h
    intro a h
    refine seqM h 70 7 rfl rfl rfl rfl rfl ?_
    clear h
    intro a h
    refine seqH h 71 (Value.int .i64 64) rfl rfl (Or.inl ⟨rfl, fun w' hw' => by
        subst hw'
        have e70 : a.eval (.tmp 70) = _ := h.ev 70 rfl
        simp only [execOp, e70]
        go_simp⟩) ?_
    clear h
    intro a h
    refine seqH h 72 (Value.int .i64 ((M : Int) % 64)) rfl rfl (Or.inl ⟨rfl, fun w' hw' => by
        subst hw'
        have e69 : a.eval (.tmp 69) = _ := h.ev 69 rfl
        have e71 : a.eval (.tmp 71) = _ := h.ev 71 rfl
        simp only [execOp, e69, e71]
        go_simp⟩) ?_
    clear h
    intro a h
    refine seqM h 73 7 rfl rfl rfl rfl rfl ?_
    clear h
    intro a h
    refine seqH h 74 (Value.int .i64 64) rfl rfl (Or.inl ⟨rfl, fun w' hw' => by
        subst hw'
        have e73 : a.eval (.tmp 73) = _ := h.ev 73 rfl
        simp only [execOp, e73]
        go_simp⟩) ?_
    clear h
    intro a h
    refine seqH h 75 (Value.int .i64 56) rfl rfl (Or.inl ⟨rfl, fun w' hw' => by
        subst hw'
        have e74 : a.eval (.tmp 74) = _ := h.ev 74 rfl
        simp only [execOp, e74]
        go_simp⟩) ?_
    clear h
    intro a h
    refine seqH h 76 (Value.bool true) rfl rfl (Or.inl ⟨rfl, fun w' hw' => by
        subst hw'
        have e72 : a.eval (.tmp 72) = _ := h.ev 72 rfl
        have e75 : a.eval (.tmp 75) = _ := h.ev 75 rfl
        simp only [execOp, e72, e75]
        go_simp⟩) ?_
    clear h
    intro a h
    refine wpSeq_nil ?_
    show Code.wp _ _ _ _ _
    refine wp_cond (t := true) (h.ev 76 rfl) ?_
    refine wp_skip ?_
    show Code.wp _ _ _ _ _
    refine wp_block ?_
    refine wp_region_seq ?_
    refine seqM h 77 13 rfl rfl rfl rfl rfl ?_
    clear h
    intro a h
    have b7 : Below w.heap.size w (w.alloc (.cells #[.int .u8 0] 5)) := (Below.refl _ _).alloc (Nat.le_refl _) _
    have W7 := byte_row w 0
    rw [show ((0 : Nat) : Int) = 0 from rfl] at W7
    refine seqW h 78 (.slice (some ⟨w.heap.size, 0, none⟩) 1 1) (w.alloc (.cells #[.int .u8 0] 5)) rfl rfl rfl (fun K hK => by
      unfold Oper.wp execOp
      go_simp
      exact hK) ?_
    clear h
    intro a h
    obtain ⟨v8, w8, r8, O8, g8, o8⟩ := append_ba B _ 22 _ _ [0] (O.below b7) w.heap.size 0 1 W7 (by have := HM.out; rw [ln]; simp; omega) (by have := G.size; simp; omega)
    rw [show List.length [0] = 1 from rfl] at r8
    have G7 : w0.grownBy (w.alloc (.cells #[.int .u8 0] 5)) v0.ownBlock := ⟨G.os, G.tape, G.output, Nat.le_trans G.size b7.size, fun i hi hne => (b7.block i (Nat.lt_of_lt_of_le hi G.size)).trans (G.block i hi hne)⟩
    have G8 := grown_trans' G7 g8 V
    have V8 := own_or G7.size V o8
    rw [msgK_succ] at O8
    clear O G V b7 W7 g8 o8 G7
    refine seqW h 79 v8 w8 rfl rfl rfl (fun K hK => wp_append_run _ _ _ _ rfl _ _ (h.ev 77 rfl) (h.ev 78 rfl) _ _ r8 hK) ?_
    clear h
    intro a h
    refine seqA h 13 79 rfl rfl rfl rfl rfl ?_
    clear h
    intro a h
    refine wpSeq_nil ?_
    refine ⟨⟨k + 1, v8, by omega, h.trim _ ?_, O8, G8, V8⟩, ?_⟩
    · intro p hp
      simp only [baseM, List.mem_cons, List.not_mem_nil, or_false] at hp
      rcases hp with rfl | rfl | rfl | rfl | rfl | rfl | rfl | rfl <;> rfl
    · have hm2 : a.tmps.getD 13 undef = v8 := h.val 13 _ rfl
      rw [hm2]
      obtain ⟨p8, c8, e8, _⟩ := O8.sb
      rw [msgK_length] at e8
      rw [e8]
      simp only [lenV]
      have := HM.out
      omega
  · have l0 : (M : Int) % 64 = 56 := by have := mt cM.2 hlt; omega
    refine seqM h 68 13 rfl rfl rfl rfl rfl ?_
    clear h
    intro a h
    refine seqH h 69 (Value.int .i64 (M : Int)) rfl rfl (Or.inl ⟨rfl, fun w' hw' => by
        subst hw'
        have e68 : a.eval (.tmp 68) = _ := h.ev 68 rfl
        have f68 := h.at_ 68 rfl
        simp only [execOp]
        go_simp⟩) ?_
    clear h
    intro a h
    refine seqM h 70 7 rfl rfl rfl rfl rfl ?_
    clear h
    intro a h
    refine seqH h 71 (Value.int .i64 64) rfl rfl (Or.inl ⟨rfl, fun w' hw' => by
        subst hw'
        have e70 : a.eval (.tmp 70) = _ := h.ev 70 rfl
        simp only [execOp, e70]
        go_simp⟩) ?_
    clear h
    intro a h
    refine seqH h 72 (Value.int .i64 ((M : Int) % 64)) rfl rfl (Or.inl ⟨rfl, fun w' hw' => by
        subst hw'
        have e69 : a.eval (.tmp 69) = _ := h.ev 69 rfl
        have e71 : a.eval (.tmp 71) = _ := h.ev 71 rfl
        simp only [execOp, e69, e71]
        go_simp⟩) ?_
    clear h
    intro a h
    refine seqM h 73 7 rfl rfl rfl rfl rfl ?_
    clear h
    intro a h
    refine seqH h 74 (Value.int .i64 64) rfl rfl (Or.inl ⟨rfl, fun w' hw' => by
        subst hw'
        have e73 : a.eval (.tmp 73) = _ := h.ev 73 rfl
        simp only [execOp, e73]
        go_simp⟩) ?_
    clear h
    intro a h
    refine seqH h 75 (Value.int .i64 56) rfl rfl (Or.inl ⟨rfl, fun w' hw' => by
        subst hw'
        have e74 : a.eval (.tmp 74) = _ := h.ev 74 rfl
        simp only [execOp, e74]
        go_simp⟩) ?_
    clear h
    intro a h
    refine seqH h 76 (Value.bool false) rfl rfl (Or.inl ⟨rfl, fun w' hw' => by
        subst hw'
        have e72 : a.eval (.tmp 72) = _ := h.ev 72 rfl
        have e75 : a.eval (.tmp 75) = _ := h.ev 75 rfl
        simp only [execOp, e72, e75]
        go_simp⟩) ?_
    clear h
    intro a h
    refine wpSeq_nil ?_
    show Code.wp _ _ _ _ _
    refine wp_cond (t := false) (h.ev 76 rfl) ?_
    refine wp_exit ?_
    obtain rfl : k = roomOf l.length - 9 := by omega
    refine hexit _ _ _ (h.trim _ ?_) O G V
    · intro p hp
      simp only [baseM, List.mem_cons, List.not_mem_nil, or_false] at hp
      rcases hp with rfl | rfl | rfl | rfl | rfl | rfl | rfl | rfl <;> rfl
set_option maxHeartbeats 4000000 in
set_option maxRecDepth 100000 in
theorem loop3_any (B : Nat) (w0 : World) (l : List Nat) (pb : Option Addr) (cb : Nat) (rv tv hv v0 : Value) (ll : l.length < 1000000) {Q : Exit → Act → World → Prop} (a : Act) (h : Has 380 ((14, .int .i64 0) :: (13, v0) :: baseM pb l.length cb rv tv hv) a) (O0 : OwL B w0 v0 (lenK l 0)) (hB : B ≤ w0.heap.size)
    (hexit : ∀ a' w' v, Has 380 ((13, v) :: baseM pb l.length cb rv tv hv) a' → OwL B w' v (lenK l 8) → w0.grownBy w' v0.ownBlock → (v.ownBlock = v0.ownBlock ∨ ∀ g, v.ownBlock = some g → w0.heap.size ≤ g) → Q (.exit 6) a' w') : Code.wp Tryd.prog (.loop (sumLoop 3)) Q a w0 := by
  have r1 := roomOf_lo l.length
  have r2 := roomOf_hi l.length
  refine wp_loop (fun a' w' => ∃ (k : Nat) (v : Value), k ≤ 8 ∧ Has 380 ((14, .int .i64 (k : Int)) :: (13, v) :: baseM pb l.length cb rv tv hv) a' ∧ OwL B w' v (lenK l k) ∧ w0.grownBy w' v0.ownBlock ∧ (v.ownBlock = v0.ownBlock ∨ ∀ g, v.ownBlock = some g → w0.heap.size ≤ g)) (fun a' _ => 8 - (intOf (a'.tmps.getD 14 undef)).toNat) ?_ ?_
  · exact ⟨0, v0, Nat.zero_le _, h, O0, ⟨rfl, rfl, rfl, Nat.le_refl _, fun _ _ _ => rfl⟩, Or.inl rfl⟩
  clear h a O0
  rintro a w ⟨k, v, hk, h, O, G, V⟩
  have ln := lenK_length l k
  obtain ⟨M, hM⟩ : ∃ M, M = l.length + (roomOf l.length - 8) + k := ⟨_, rfl⟩
  rw [← hM] at ln
  have HM := Lib.hid hM
  obtain ⟨p, c, e, _⟩ := O.sb
  rw [ln] at e
  have hm : a.tmps.getD 14 undef = .int .i64 (k : Int) := h.val 14 _ rfl
  generalize a.tmps.getD 14 undef = x at hm ⊢
  subst hm
  subst e
  conv => arg 2; whnf
  refine wp_seq (wp_seq ?_)
  refine wp_region_seq ?_
  clear hM
  have w1 : ∀ j : Nat, j < 1000 → IntKind.i64.wrap (8 * (j : Int)) = 8 * (j : Int) := fun j hj => by rw [IntKind.wrap_i64]; omega
  have w2 : ∀ j : Nat, j < 8 → IntKind.i64.wrap (56 - 8 * (j : Int)) = 56 - 8 * (j : Int) := fun j hj => by rw [IntKind.wrap_i64]; omega
  have w3 := w1 k (by omega)
  by_cases hlt : k < 8
  · have l0 : (k : Int) < 8 := by omega
    have w4 := w2 k hlt
    clear w1 w2
    refine seqM h 80 14 rfl rfl rfl rfl rfl ?_
    clear h
    intro a h
    refine seqH h 81 (Value.bool true) rfl rfl (Or.inl ⟨rfl, fun w' hw' => by
        subst hw'
        have e80 : a.eval (.tmp 80) = _ := h.ev 80 rfl
        simp only [execOp, e80]
        go_simp⟩) ?_
    clear h
    intro a h
    refine wpSeq_nil ?_
    show Code.wp _ _ _ _ _
    refine wp_cond (t := true) (h.ev 81 rfl) ?_
    refine wp_skip ?_
    show Code.wp _ _ _ _ _
    refine wp_seq (wp_block ?_)
    refine wp_region_seq ?_
    have u1 : IntKind.u64.wrap ((l.length : Nat) : Int) = ((l.length : Nat) : Int) := by rw [IntKind.wrap_u64]; omega
    have u2 : IntKind.u64.wrap (((l.length : Nat) : Int) * 8) = ((l.length : Nat) : Int) * 8 := by rw [IntKind.wrap_u64]; omega
    have u3 : (0 : Int) ≤ 56 - 8 * (k : Int) := by omega
    have u4 : (56 - 8 * (k : Int)).toNat = 56 - 8 * k := by omega
    have u5 : min (56 - 8 * k) 64 = 56 - 8 * k := by omega
    have u6 : (0 : Int) ≤ 8 * (k : Int) := by omega
    obtain ⟨X, hX⟩ : ∃ X, X = lenAt l.length (7 - k) := ⟨_, rfl⟩
    have u7 : IntKind.u8.wrap (((l.length : Nat) : Int) * 8 / 2 ^ (56 - 8 * k)) = (X : Int) := by
      rw [IntKind.wrap_u8, hX]
      unfold lenAt
      rw [Nat.mod_eq_of_lt (show l.length * 8 < 18446744073709551616 by omega), show (7 - k) * 8 = 56 - 8 * k by omega, Int.natCast_emod, Int.natCast_ediv, Int.natCast_mul, Int.natCast_pow]
      rfl
    have HX := Lib.hid hX
    clear hX
    refine seqM h 84 13 rfl rfl rfl rfl rfl ?_
    clear h
    intro a h
    refine seqM h 85 0 rfl rfl rfl rfl rfl ?_
    clear h
    intro a h
    refine seqH h 86 (Value.int .i64 ((l.length : Nat) : Int)) rfl rfl (Or.inl ⟨rfl, fun w' hw' => by
        subst hw'
        have e85 : a.eval (.tmp 85) = _ := h.ev 85 rfl
        have f85 := h.at_ 85 rfl
        simp only [execOp]
        go_simp⟩) ?_
    clear h
    intro a h
    refine seqH h 87 (Value.int .u64 ((l.length : Nat) : Int)) rfl rfl (Or.inl ⟨rfl, fun w' hw' => by
        subst hw'
        have e86 : a.eval (.tmp 86) = _ := h.ev 86 rfl
        simp only [execOp, e86]
        go_simp⟩) ?_
    clear h
    intro a h
    refine seqH h 88 (Value.int .u64 (((l.length : Nat) : Int) * 8)) rfl rfl (Or.inl ⟨rfl, fun w' hw' => by
        subst hw'
        have e87 : a.eval (.tmp 87) = _ := h.ev 87 rfl
        simp only [execOp, e87]
        go_simp⟩) ?_
    clear h
    intro a h
    refine seqM h 89 14 rfl rfl rfl rfl rfl ?_
    clear h
    intro a h
    refine seqH h 90 (Value.int .i64 (8 * (k : Int))) rfl rfl (Or.inl ⟨rfl, fun w' hw' => by
        subst hw'
        have e89 : a.eval (.tmp 89) = _ := h.ev 89 rfl
        simp only [execOp, e89]
        go_simp⟩) ?_
    clear h
    intro a h
    refine seqH h 91 (Value.int .i64 (56 - 8 * (k : Int))) rfl rfl (Or.inl ⟨rfl, fun w' hw' => by
        subst hw'
        have e90 : a.eval (.tmp 90) = _ := h.ev 90 rfl
        simp only [execOp, e90]
        go_simp⟩) ?_
    clear h
    intro a h
    refine seqH h 92 (Value.int .u64 (((l.length : Nat) : Int) * 8 / 2 ^ (56 - 8 * k))) rfl rfl (Or.inl ⟨rfl, fun w' hw' => by
        subst hw'
        have e88 : a.eval (.tmp 88) = _ := h.ev 88 rfl
        have e91 : a.eval (.tmp 91) = _ := h.ev 91 rfl
        simp only [execOp, e88, e91]
        go_simp⟩) ?_
    clear h
    intro a h
    refine seqH h 93 (Value.int .u8 (X : Int)) rfl rfl (Or.inl ⟨rfl, fun w' hw' => by
        subst hw'
        have e92 : a.eval (.tmp 92) = _ := h.ev 92 rfl
        simp only [execOp, e92]
        go_simp⟩) ?_
    clear h
    intro a h
    have b7 : Below w.heap.size w (w.alloc (.cells #[.int .u8 (X : Int)] 5)) := (Below.refl _ _).alloc (Nat.le_refl _) _
    have W7 := byte_row w X
    refine seqW h 94 (.slice (some ⟨w.heap.size, 0, none⟩) 1 1) (w.alloc (.cells #[.int .u8 (X : Int)] 5)) rfl rfl rfl (fun K hK => by
      have f93 := h.at_ 93 rfl
      unfold Oper.wp execOp
      go_simp
      exact hK) ?_
    clear h
    intro a h
    obtain ⟨v8, w8, r8, O8, g8, o8⟩ := append_ba B _ 22 _ _ [X] (O.below b7) w.heap.size 0 1 W7 (by have := HM.out; rw [ln]; simp; omega) (by have := G.size; simp; omega)
    rw [show List.length [X] = 1 from rfl] at r8
    have G7 : w0.grownBy (w.alloc (.cells #[.int .u8 (X : Int)] 5)) v0.ownBlock := ⟨G.os, G.tape, G.output, Nat.le_trans G.size b7.size, fun i hi hne => (b7.block i (Nat.lt_of_lt_of_le hi G.size)).trans (G.block i hi hne)⟩
    have G8 := grown_trans' G7 g8 V
    have V8 := own_or G7.size V o8
    rw [HX.out, lenK_succ] at O8
    clear O G V b7 W7 g8 o8 G7
    refine seqW h 95 v8 w8 rfl rfl rfl (fun K hK => wp_append_run _ _ _ _ rfl _ _ (h.ev 84 rfl) (h.ev 94 rfl) _ _ r8 hK) ?_
    clear h
    intro a h
    refine seqA h 13 95 rfl rfl rfl rfl rfl ?_
    clear h
    intro a h
    refine wpSeq_nil ?_
    show Code.wp _ _ _ _ _
    refine wp_region_seq ?_
    have ew : IntKind.i64.wrap ((k : Int) + 1) = (k : Int) + 1 := by rw [IntKind.wrap_i64]; omega
    refine seqM h 82 14 rfl rfl rfl rfl rfl ?_
    clear h
    intro a h
    refine seqH h 83 (Value.int .i64 ((k : Int) + 1)) rfl rfl (Or.inl ⟨rfl, fun w' hw' => by
        subst hw'
        have e82 : a.eval (.tmp 82) = _ := h.ev 82 rfl
        simp only [execOp, e82]
        go_simp⟩) ?_
    clear h
    intro a h
    refine seqA h 14 83 rfl rfl rfl rfl rfl ?_
    clear h
    intro a h
    refine wpSeq_nil ?_
    refine ⟨⟨k + 1, v8, by omega, h.trim _ ?_, O8, G8, V8⟩, ?_⟩
    · intro p hp
      simp only [baseM, List.mem_cons, List.not_mem_nil, or_false] at hp
      rcases hp with rfl | rfl | rfl | rfl | rfl | rfl | rfl | rfl | rfl <;> rfl
    · have hm2 : a.tmps.getD 14 undef = .int .i64 ((k + 1 : Nat) : Int) := h.val 14 _ rfl
      rw [hm2]
      simp only [intOf]
      omega
  · have l0 : ¬ ((k : Int) < 8) := by omega
    refine seqM h 80 14 rfl rfl rfl rfl rfl ?_
    clear h
    intro a h
    refine seqH h 81 (Value.bool false) rfl rfl (Or.inl ⟨rfl, fun w' hw' => by
        subst hw'
        have e80 : a.eval (.tmp 80) = _ := h.ev 80 rfl
        simp only [execOp, e80]
        go_simp⟩) ?_
    clear h
    intro a h
    refine wpSeq_nil ?_
    show Code.wp _ _ _ _ _
    refine wp_cond (t := false) (h.ev 81 rfl) ?_
    refine wp_exit ?_
    obtain rfl : k = 8 := by omega
    refine hexit _ _ _ (h.trim _ ?_) O G V
    · intro p hp
      simp only [baseM, List.mem_cons, List.not_mem_nil, or_false] at hp
      rcases hp with rfl | rfl | rfl | rfl | rfl | rfl | rfl | rfl <;> rfl
end Go.Proofs.YtdmhngkedgkndaaDoor
namespace Go.Proofs.YtdmhngkedgkndaaDoor
open Go.RowKit
theorem testBit_u32 (i : Nat) : (4294967295 : Nat).testBit i = decide (i < 32) := Nat.testBit_two_pow_sub_one 32 i
theorem testBit_u64 (i : Nat) : (18446744073709551615 : Nat).testBit i = decide (i < 64) := Nat.testBit_two_pow_sub_one 64 i
theorem testBit_high (x : Nat) (hx : x < 4294967296) (i : Nat) (hi : 32 ≤ i) : x.testBit i = false :=
  Nat.testBit_lt_two_pow (Nat.lt_of_lt_of_le hx (show 2 ^ 32 ≤ 2 ^ i from Nat.pow_le_pow_right (by decide) hi))
theorem not_and (e g : Nat) (hg : g < 4294967296) : (18446744073709551615 ^^^ e) &&& g = (4294967295 ^^^ e) &&& g := by
  apply Nat.eq_of_testBit_eq
  intro i
  simp only [Nat.testBit_and, Nat.testBit_xor, testBit_u32, testBit_u64]
  by_cases hi : i < 32
  · simp [hi, show i < 64 by omega]
  · simp [testBit_high g hg i (by omega)]
theorem or_ei (e f g : Nat) (hg : g < 4294967296) (hf : f < 4294967296) : (e &&& f) ||| ((18446744073709551615 ^^^ e) &&& g) = ei e f g := by
  rw [not_and e g hg]
  unfold ei
  apply Nat.eq_of_testBit_eq
  intro i
  simp only [Nat.testBit_and, Nat.testBit_xor, Nat.testBit_or, testBit_u32]
  by_cases hi : i < 32
  · simp only [hi, decide_true]
    cases e.testBit i <;> cases f.testBit i <;> cases g.testBit i <;> rfl
  · rw [testBit_high g hg i (by omega), testBit_high f hf i (by omega)]
    simp
theorem or_ma (a b c : Nat) : (a &&& b) ||| (a &&& c) ||| (b &&& c) = ma a b c := by
  unfold ma
  apply Nat.eq_of_testBit_eq
  intro i
  simp only [Nat.testBit_and, Nat.testBit_xor, Nat.testBit_or]
  cases a.testBit i <;> cases b.testBit i <;> cases c.testBit i <;> rfl
/-- The words F 0, .., F (n - 1) in block g. -/
def RF (w : World) (g n : Nat) (F : Nat → Nat) : Prop := RQ w g ((List.range n).map F)
theorem RF.cell {w : World} {g n : Nat} {F : Nat → Nat} (h : RF w g n F) (i : Nat) (hi : i < n) : w.cell? ⟨g, i, none⟩ = some (.int .u64 ((F i : Nat) : Int)) := by
  have := RQ.cell h i (by simp; exact hi)
  simpa using this
theorem RF.set {w : World} {g n : Nat} {F : Nat → Nat} (h : RF w g n F) (k : Nat) (G : Nat → Nat) (hk : k < n) (ho : ∀ i, i ≠ k → G i = F i) : RF (w.setCell ⟨g, k, none⟩ (.int .u64 ((G k : Nat) : Int))) g n G := by
  have := RQ.set h k (G k) (by simp; exact hk)
  unfold RF
  have e : ((List.range n).map F).set k (G k) = (List.range n).map G := by
    apply List.ext_getElem (by simp)
    intro i h1 h2
    simp only [List.getElem_set, List.getElem_map, List.getElem_range]
    by_cases hj : k = i
    · rw [if_pos hj, hj]
    · rw [if_neg hj, ho i (fun e => hj e.symm)]
  rw [e] at this
  exact this
theorem RF.congr {w : World} {g n : Nat} {F G : Nat → Nat} (h : RF w g n F) (e : ∀ i, i < n → F i = G i) : RF w g n G := by
  unfold RF at h ⊢
  rwa [List.map_congr_left fun i hi => e i (List.mem_range.1 hi)] at h
theorem or_byte64 (v b : Nat) (hv : v < 16777216) (hb : b < 256) : bits .or .u64 ((v : Int) * 256) (b : Int) = ((v * 256 + b : Nat) : Int) := by
  rw [or64 8 _ _ (by omega) (by omega) (by omega) (by omega) (by omega) (by decide)]
  omega
/-- The reference's words behind the block's bytes. -/
theorem part_upto (b : Nat → Nat) (j : Nat) : part b 64 j = if j < 16 then wd b j else 0 := by
  by_cases h : j < 16
  · rw [if_pos h, part_full b j h, wd_low b j h]
  · rw [if_neg h]
    unfold part
    rw [show min 4 (64 - 4 * j) = 0 by omega]
    rfl
def uptoF (b : Nat → Nat) (k i : Nat) : Nat := if i < k then wd b i else 0
end Go.Proofs.YtdmhngkedgkndaaDoor
