/- The reference's sum: all blocks (loop 4). -/
import Derived.Test.YtdmhngkedgkndaaDoorKQi
namespace Go.Proofs.YtdmhngkedgkndaaDoor
open Go.RowKit
def baseB (pb : Option Addr) (n cb gr g3 c3 gh ch gm M cm : Nat) : List (Nat × Value) := [(0, .slice pb n cb), (1, .int .i64 32), (2, .slice (some ⟨gr, 0, none⟩) 12 12), (7, .int .i64 4), (8, .int .i64 64), (9, .slice (some ⟨g3, 0, none⟩) 64 c3), (10, .slice (some ⟨gh, 0, none⟩) 8 ch), (13, .slice (some ⟨gm, 0, none⟩) M cm)]
theorem makeq (w : World) : (Instr.makeSlice 58 (.int .i64 64) (.int .i64 64)).run Tryd.prog w = .ok (.slice (some ⟨w.heap.size, 0, none⟩) 64 64) (w.alloc (.cells (Iv .u64 (NI ((List.range 64).map fun _ => 0))) 59)) := by
  have h := run_make_row' (P := Tryd.prog) 58 59 (.int .u64 0) 8 Tryd.underlying58 (by kernel_rfl) rfl .i64 .i64 64 (by omega) (by omega) w
  have e : madeCells #[Value.int .u64 0] 64 = Iv .u64 (NI ((List.range 64).map fun _ => 0)) := by
    apply Array.ext
    · simp [size_madeCells, Iv, NI]
    · intro i h1 h2
      simp [madeCells, Nat.mod_one, Iv, NI]
  rw [e] at h
  exact h
theorem buildq_none (w : World) : (Instr.buildSlice 58 0 #[]).run Tryd.prog w = .ok (.slice (some ⟨w.heap.size, 0, none⟩) 0 0) (w.alloc (.cells #[] 59)) := by
  obtain ⟨i, hi, hs, _, _⟩ := info_u64
  simp [Instr.buildSlice, run_underlying Tryd.underlying58, sizeOf, typeInfo, hi, newRow, Instr.fill]
  exact congrArg (fun c => w.alloc (.cells c 59)) (Array.ext (by simp) (fun i h => by simp at h))
theorem owq_none (B : Nat) (w : World) (hB : B ≤ w.heap.size) : OwQ B (w.alloc (.cells #[] 59)) (.slice (some ⟨w.heap.size, 0, none⟩) 0 0) [] :=
  ⟨rfl, .inr ⟨w.heap.size, 0, _, rfl, hB, heap_alloc_new w _, Nat.le_refl _, Nat.zero_le _, rfl, rfl⟩⟩
theorem comp_eq (cu hh b : Nat → Nat) : (fun i => (hh i + (rnds cu hh b 64).at i) % 4294967296) = comp cu hh b := rfl
theorem at_zero (cu hh b : Nat → Nat) (i : Nat) (h : i < 8) : hh i = (rnds cu hh b 0).at i :=
  match i, h with
  | 0, _ => rfl
  | 1, _ => rfl
  | 2, _ => rfl
  | 3, _ => rfl
  | 4, _ => rfl
  | 5, _ => rfl
  | 6, _ => rfl
  | 7, _ => rfl
theorem S8.Ok.lt {s : S8} (h : s.Ok) (i : Nat) (hi : i < 8) : s.at i < 4294967296 :=
  match i, hi with
  | 0, _ => h.a
  | 1, _ => h.b
  | 2, _ => h.c
  | 3, _ => h.d
  | 4, _ => h.e
  | 5, _ => h.f
  | 6, _ => h.g
  | 7, _ => h.h
set_option maxHeartbeats 4000000 in
set_option maxRecDepth 100000 in
theorem loop4_any (w0 : World) (cu h0 : Nat → Nat) (lcu : ∀ i, cu i < 18446744073709551616) (lh : ∀ i, i < 8 → h0 i < 4294967296) (P : List Nat) (bP : Bytes P) (N : Nat) (pb : Option Addr) (n cb gr g3 c3 gh ch gm M cm : Nat) (hM : M = P.length) (hN : M = 64 * N) (hM2 : M < 2000000) (hc3 : 64 ≤ c3) (hch : 8 ≤ ch)
    (n1 : gm ≠ gh) (n2 : g3 ≠ gh) (n3 : gr ≠ gh) {Q : Exit → Act → World → Prop} (hQ : ∀ c a d v w, Q (.panic c) (Act.put a d v) w → Q (.panic c) a w) (a : Act) (h : Has 380 ((15, .int .i64 0) :: baseB pb n cb gr g3 c3 gh ch gm M cm) a) (A0 : BA w0 gm 0 P) (T0 : RQ w0 g3 (half cu 64)) (R0 : Rs w0 gr) (H0 : RF w0 gh 8 h0)
    (hexit : ∀ a' w', Has 380 (baseB pb n cb gr g3 c3 gh ch gm M cm) a' → RF w' gh 8 (hashK cu h0 (fun i => P.getD i 0) N) → w0.grownBy w' (some gh) → Q (.exit 8) a' w') : Code.wp Tryd.prog (.loop (sumLoop 4)) Q a w0 := by
  refine wp_loop (fun a' w' => ∃ (q : Nat), q ≤ N ∧ Has 380 ((15, .int .i64 ((64 * q : Nat) : Int)) :: baseB pb n cb gr g3 c3 gh ch gm M cm) a' ∧ RF w' gh 8 (hashK cu h0 (fun i => P.getD i 0) q) ∧ w0.grownBy w' (some gh)) (fun a' _ => M - (intOf (a'.tmps.getD 15 undef)).toNat) ?_ ?_
  · exact ⟨0, Nat.zero_le _, h, H0, ⟨rfl, rfl, rfl, Nat.le_refl _, fun _ _ _ => rfl⟩⟩
  have mA := A0.blk
  have mT := T0.blk
  have mR := R0.blk
  have mH := RQ.blk H0
  clear h a H0
  rintro a V ⟨q, hq, h, H, G⟩
  obtain ⟨at_, hat⟩ : ∃ x, x = 64 * q := ⟨_, rfl⟩
  rw [← hat] at h
  have hm : a.tmps.getD 15 undef = .int .i64 (at_ : Int) := h.val 15 _ rfl
  generalize a.tmps.getD 15 undef = x at hm ⊢
  subst hm
  conv => arg 2; whnf
  refine wp_seq (wp_seq ?_)
  refine wp_region_seq ?_
  by_cases hlt : q < N
  · have l0 : (at_ : Int) < (M : Int) := by omega
    have l1 : at_ + 64 ≤ M := by omega
    have HAT := Lib.hid hat
    have HM := Lib.hid hM
    have HN := Lib.hid hN
    clear hM hN
    have hat2 := Lib.hid hat
    clear hat
    refine seqM h 96 15 rfl rfl rfl rfl rfl ?_
    clear h
    intro a h
    refine seqM h 97 13 rfl rfl rfl rfl rfl ?_
    clear h
    intro a h
    refine seqH h 98 (Value.int .i64 (M : Int)) rfl rfl (Or.inl ⟨rfl, fun w' hw' => by
        subst hw'
        have e97 : a.eval (.tmp 97) = _ := h.ev 97 rfl
        have f97 := h.at_ 97 rfl
        simp only [execOp]
        go_simp⟩) ?_
    clear h
    intro a h
    refine seqH h 99 (Value.bool true) rfl rfl (Or.inl ⟨rfl, fun w' hw' => by
        subst hw'
        have e96 : a.eval (.tmp 96) = _ := h.ev 96 rfl
        have e98 : a.eval (.tmp 98) = _ := h.ev 98 rfl
        simp only [execOp, e96, e98]
        go_simp⟩) ?_
    clear h
    intro a h
    refine wpSeq_nil ?_
    show Code.wp _ _ _ _ _
    refine wp_cond (t := true) (h.ev 99 rfl) ?_
    refine wp_skip ?_
    show Code.wp _ _ _ _ _
    have hat := hat2.out
    refine wp_seq (wp_block (wp_seq ?_))
    refine wp_region_seq ?_
    have A := A0.of_block (G.block gm mA (fun e => n1 (by cases e; rfl)))
    have T := T0.of_block (G.block g3 mT (fun e => n2 (by cases e; rfl)))
    have R := R0.of_block (G.block gr mR (fun e => n3 (by cases e; rfl)))
    have lhh := hashK_lt cu h0 (fun i => P.getD i 0) lh q
    have hsucc : hashK cu h0 (fun i => P.getD i 0) (q + 1) = comp cu (hashK cu h0 (fun i => P.getD i 0) q) fun i => P.getD (64 * q + i) 0 := rfl
    obtain ⟨hh, hhh⟩ : ∃ x, x = hashK cu h0 (fun i => P.getD i 0) q := ⟨_, rfl⟩
    rw [← hhh] at H lhh hsucc
    obtain ⟨b, hbb⟩ : ∃ b : Nat → Nat, b = fun i => P.getD (at_ + i) 0 := ⟨_, rfl⟩
    rw [← hat, ← hbb] at hsucc
    clear hat
    have lb : ∀ i, b i < 256 := fun i => by rw [hbb]; exact bP.getD _
    have eb : ∀ i, i < 64 → P.getD (at_ + i) 0 = b i := fun i _ => by rw [hbb]
    have HS := Lib.hid hsucc
    clear hsucc hhh hbb
    refine seqM h 104 8 rfl rfl rfl rfl rfl ?_
    clear h
    intro a h
    have hmk := makeq V
    refine seqW h 105 (.slice (some ⟨V.heap.size, 0, none⟩) 64 64) (V.alloc (.cells (Iv .u64 (NI ((List.range 64).map fun _ => 0))) 59)) rfl rfl rfl (fun K hK => by
      have f1 := h.at_ 104 rfl
      unfold Oper.wp execOp
      go_simp
      exact hK) ?_
    clear h hmk
    intro a h
    refine seqA h 16 105 rfl rfl rfl rfl rfl ?_
    clear h
    intro a h
    have d1 : Below V.heap.size V (V.alloc (.cells (Iv .u64 (NI ((List.range 64).map fun _ => 0))) 59)) := (Below.refl _ _).alloc (Nat.le_refl _) _
    have W1 : RF (V.alloc (.cells (Iv .u64 (NI ((List.range 64).map fun _ => 0))) 59)) V.heap.size 64 fun _ => 0 := RQ.of_blk (Blk.new _ _ _)
    have sz := G.size
    generalize World.alloc V _ = V1 at d1 W1 ⊢
    refine wpSeq_nil ?_
    show Code.wp _ _ _ _ _
    refine wp_seq (wp_seq ?_)
    refine wp_region_seq ?_
    refine seqC h 17 rfl rfl rfl rfl ?_
    clear h
    intro a h
    refine wpSeq_nil ?_
    show Code.wp _ _ _ _ _
    refine wp_block ?_
    refine loop5_any V1 P pb n cb M cm gm at_ V.heap.size (.slice (some ⟨gr, 0, none⟩) 12 12) (.slice (some ⟨g3, 0, none⟩) 64 c3) (.slice (some ⟨gh, 0, none⟩) 8 ch) b lb eb (by have := HM.out; omega) HM.out hM2 (by omega) ?_ a (h.trim _ ?_) (A.below d1) W1 ?_
    · exact fun c a d v w h => hQ c a d v w h
    · intro p hp
      simp only [baseW, List.mem_cons, List.not_mem_nil, or_false] at hp
      rcases hp with rfl | rfl | rfl | rfl | rfl | rfl | rfl | rfl | rfl | rfl | rfl <;> rfl
    clear h a
    intro a w5 h F5 G5
    have d5 : Below V.heap.size V w5 := below_grown' d1 G5 (fun j hj => by cases hj; exact Nat.le_refl _) d1.size
    clear W1 G5
    show Code.wp _ _ _ _ _
    refine wp_seq (wp_seq ?_)
    refine wp_region_seq ?_
    refine seqC h 18 rfl rfl rfl rfl ?_
    clear h
    intro a h
    refine wpSeq_nil ?_
    show Code.wp _ _ _ _ _
    refine wp_block ?_
    refine loop6_any w5 pb n cb at_ V.heap.size gr (.slice (some ⟨g3, 0, none⟩) 64 c3) (.slice (some ⟨gh, 0, none⟩) 8 ch) (.slice (some ⟨gm, 0, none⟩) M cm) b lb (by omega) ?_ a (h.trim _ ?_) F5 (R.of_block (d5.block gr R.blk)) ?_
    · exact fun c a d v w h => hQ c a d v w h
    · intro p hp
      simp only [baseW, List.mem_cons, List.not_mem_nil, or_false] at hp
      rcases hp with rfl | rfl | rfl | rfl | rfl | rfl | rfl | rfl | rfl | rfl | rfl <;> rfl
    clear h a
    intro a w6 h F6 G6
    have d6 : Below V.heap.size V w6 := below_grown' d5 G6 (fun j hj => by cases hj; exact Nat.le_refl _) d5.size
    clear F5 G6 d5 d1
    show Code.wp _ _ _ _ _
    refine wp_seq ?_
    refine wp_region_seq ?_
    have O0 := owq_none w6.heap.size w6 (Nat.le_refl _)
    have B0 : Below w6.heap.size w6 _ := (Below.refl _ _).alloc (Nat.le_refl _) (.cells #[] 59)
    have H6 : RQ w6 gh ((List.range 8).map hh) := RQ.below H d6
    obtain ⟨v7, w7, r7, O7, g7, _⟩ := append_q w6.heap.size _ 58 _ [] ((List.range 8).map hh) O0 gh ch 8 (RQ.below H6 B0) (by simp) (by simp) B0.size
    have B7 : Below w6.heap.size w6 w7 := below_grown' B0 g7 (fun j hj => (O0.lt j hj).1) B0.size
    rcases O7.row with ⟨_, hx⟩ | ⟨gv, cv, rfl, hgv, hcv, V7⟩
    · simp at hx
    have e8 : List.length ([] ++ (List.range 8).map hh) = 8 := by simp
    rw [e8] at r7 hcv
    rw [List.nil_append] at V7
    refine seqW h 205 (.slice (some ⟨w6.heap.size, 0, none⟩) 0 0) (w6.alloc (.cells #[] 59)) rfl rfl rfl (fun K hK => wp_build_run _ rfl _ _ (buildq_none _) hK) ?_
    clear h
    intro a h
    refine seqM h 206 10 rfl rfl rfl rfl rfl ?_
    clear h
    intro a h
    refine seqW h 207 (.slice (some ⟨gv, 0, none⟩) 8 cv) w7 rfl rfl rfl (fun K hK => wp_append_run _ _ _ _ rfl _ _ (h.ev 205 rfl) (h.ev 206 rfl) _ _ r7 hK) ?_
    clear h
    intro a h
    refine seqA h 23 207 rfl rfl rfl rfl rfl ?_
    clear h
    intro a h
    have d7 : Below V.heap.size V w7 := d6.trans (B7.mono d6.size)
    have F7 := RQ.below F6 B7
    have H7 := RQ.below H d7
    clear O0 B0 r7 O7 g7 H6
    refine wpSeq_nil ?_
    show Code.wp _ _ _ _ _
    refine wp_seq (wp_seq ?_)
    refine wp_region_seq ?_
    refine seqC h 24 rfl rfl rfl rfl ?_
    clear h
    intro a h
    refine wpSeq_nil ?_
    show Code.wp _ _ _ _ _
    refine wp_block ?_
    refine loop7_any w7 cu lcu hh b lhh lb pb n cb gr g3 c3 at_ V.heap.size gv cv (.slice (some ⟨gh, 0, none⟩) 8 ch) (.slice (some ⟨gm, 0, none⟩) M cm) hcv hc3 V.heap.size d7.size (by have := d6.size; omega) ?_ a (h.trim _ ?_) ⟨RF.congr V7 (at_zero cu hh b), T.below d7, F7, R.of_block (d7.block gr R.blk), Below.refl _ _⟩ ?_
    · exact fun c a d v w h => hQ c a d v w h
    · intro p hp
      simp only [baseV, List.mem_cons, List.not_mem_nil, or_false] at hp
      rcases hp with rfl | rfl | rfl | rfl | rfl | rfl | rfl | rfl | rfl | rfl | rfl | rfl <;> rfl
    clear h a
    intro a w8 gv2 cv2 hcv2 hgv2 h R8
    have d8 : Below V.heap.size V w8 := d7.trans (R8.b.mono d7.size)
    have H8 := RQ.below H d8
    show Code.wp _ _ _ _ _
    refine wp_seq ?_
    refine wp_region_seq ?_
    refine seqC h 29 rfl rfl rfl rfl ?_
    clear h
    intro a h
    refine wpSeq_nil ?_
    show Code.wp _ _ _ _ _
    refine wp_block ?_
    refine loop8_any w8 hh (rnds cu hh b 64).at lhh (S8.Ok.lt (rnds_ok cu hh b lhh 64)) pb n cb gr g3 c3 gh ch at_ gv2 cv2 (.slice (some ⟨gm, 0, none⟩) M cm) (by omega) hch hcv2 ?_ a (h.trim _ ?_) H8 R8.v ?_
    · exact fun c a d v w h => hQ c a d v w h
    · intro p hp
      simp only [kbaseA, List.mem_cons, List.not_mem_nil, or_false] at hp
      rcases hp with rfl | rfl | rfl | rfl | rfl | rfl | rfl | rfl | rfl | rfl | rfl <;> rfl
    clear h a
    intro a w9 h F9 G9
    rw [comp_eq, ← HS.out] at F9
    have G10 : w0.grownBy w9 (some gh) := ⟨G9.os.trans (d8.os.trans G.os), G9.tape.trans (d8.tape.trans G.tape), G9.output.trans (d8.output.trans G.output), Nat.le_trans G.size (Nat.le_trans d8.size G9.size), fun i hi hne => (G9.block i (Nat.lt_of_lt_of_le hi (Nat.le_trans G.size d8.size)) hne).trans ((d8.block i (Nat.lt_of_lt_of_le hi G.size)).trans (G.block i hi hne))⟩
    clear G9 d8 d7 d6 R8 H8 H7 F7 V7 F6
    show Code.wp _ _ _ _ _
    refine wp_region_seq ?_
    have w64 : IntKind.i64.wrap 64 = 64 := by rw [IntKind.wrap_i64]; rfl
    have ew : IntKind.i64.wrap ((at_ : Int) + 64) = (at_ : Int) + 64 := by rw [IntKind.wrap_i64]; omega
    refine seqM h 100 15 rfl rfl rfl rfl rfl ?_
    clear h
    intro a h
    refine seqM h 101 7 rfl rfl rfl rfl rfl ?_
    clear h
    intro a h
    refine seqH h 102 (Value.int .i64 64) rfl rfl (Or.inl ⟨rfl, fun w' hw' => by
        subst hw'
        have e101 : a.eval (.tmp 101) = _ := h.ev 101 rfl
        simp only [execOp, e101]
        go_simp⟩) ?_
    clear h
    intro a h
    refine seqH h 103 (Value.int .i64 ((at_ : Int) + 64)) rfl rfl (Or.inl ⟨rfl, fun w' hw' => by
        subst hw'
        have e100 : a.eval (.tmp 100) = _ := h.ev 100 rfl
        have e102 : a.eval (.tmp 102) = _ := h.ev 102 rfl
        simp only [execOp, e100, e102]
        go_simp⟩) ?_
    clear h
    intro a h
    refine seqA h 15 103 rfl rfl rfl rfl rfl ?_
    clear h
    intro a h
    refine wpSeq_nil ?_
    have en : (at_ : Int) + 64 = ((64 * (q + 1) : Nat) : Int) := by have := HAT.out; omega
    rw [en] at h
    refine ⟨⟨q + 1, by omega, h.trim _ ?_, F9, G10⟩, ?_⟩
    · intro p hp
      simp only [baseB, List.mem_cons, List.not_mem_nil, or_false] at hp
      rcases hp with rfl | rfl | rfl | rfl | rfl | rfl | rfl | rfl | rfl <;> rfl
    · have hm2 : a.tmps.getD 15 undef = .int .i64 ((64 * (q + 1) : Nat) : Int) := h.val 15 _ rfl
      rw [hm2]
      simp only [intOf]
      have := HAT.out
      have := HN.out
      omega
  · have l0 : ¬ ((at_ : Int) < (M : Int)) := by omega
    obtain rfl : q = N := by omega
    have HM := Lib.hid hM
    have HN := Lib.hid hN
    clear hat hM hN
    refine seqM h 96 15 rfl rfl rfl rfl rfl ?_
    clear h
    intro a h
    refine seqM h 97 13 rfl rfl rfl rfl rfl ?_
    clear h
    intro a h
    refine seqH h 98 (Value.int .i64 (M : Int)) rfl rfl (Or.inl ⟨rfl, fun w' hw' => by
        subst hw'
        have e97 : a.eval (.tmp 97) = _ := h.ev 97 rfl
        have f97 := h.at_ 97 rfl
        simp only [execOp]
        go_simp⟩) ?_
    clear h
    intro a h
    refine seqH h 99 (Value.bool false) rfl rfl (Or.inl ⟨rfl, fun w' hw' => by
        subst hw'
        have e96 : a.eval (.tmp 96) = _ := h.ev 96 rfl
        have e98 : a.eval (.tmp 98) = _ := h.ev 98 rfl
        simp only [execOp, e96, e98]
        go_simp⟩) ?_
    clear h
    intro a h
    refine wpSeq_nil ?_
    show Code.wp _ _ _ _ _
    refine wp_cond (t := false) (h.ev 99 rfl) ?_
    refine wp_exit ?_
    refine hexit _ _ (h.trim _ ?_) H G
    · intro p hp
      simp only [baseB, List.mem_cons, List.not_mem_nil, or_false] at hp
      rcases hp with rfl | rfl | rfl | rfl | rfl | rfl | rfl | rfl <;> rfl
end Go.Proofs.YtdmhngkedgkndaaDoor
