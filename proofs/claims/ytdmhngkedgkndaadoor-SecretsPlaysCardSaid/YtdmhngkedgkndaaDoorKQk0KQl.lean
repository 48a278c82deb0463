/- The reference's sum at 32 bits: its contract. The reference's Sum256: its contract. -/
import Derived.Test.YtdmhngkedgkndaaDoorKQj
namespace Go.Proofs.YtdmhngkedgkndaaDoor
open Go.RowKit
theorem khas_enter3 (x y z : Value) (N : Nat) (h3 : 3 ≤ N) : Has N [(0, x), (1, y), (2, z)] ⟨#[x, y, z] ++ Array.replicate (N - 3) undef, []⟩ := by
  refine ⟨by simp; omega, rfl, fun d v hl => ?_⟩
  match d, hl with
  | 0, hl => have e : look [(0, x), (1, y), (2, z)] 0 = some x := rfl
             cases e.symm.trans hl
             simp [Array.getElem?_append]
  | 1, hl => have e : look [(0, x), (1, y), (2, z)] 1 = some y := rfl
             cases e.symm.trans hl
             simp [Array.getElem?_append]
  | 2, hl => have e : look [(0, x), (1, y), (2, z)] 2 = some z := rfl
             cases e.symm.trans hl
             simp [Array.getElem?_append]
  | n + 3, hl => have e : look [(0, x), (1, y), (2, z)] (n + 3) = none := rfl
                 cases e.symm.trans hl
theorem kcalls_enter3 {P : Program} {f : FuncId} {fn : Func} {c : Code} {x y z : Value} {w : World} {R : Ending → World → Prop} (N : Nat) (hf : P.funcs[f]? = some fn) (hb : fn.body = some c) (hN : fn.ntmps = N) (h3 : 3 ≤ N)
    (h : ∀ a, Has N [(0, x), (1, y), (2, z)] a → c.wp P (bodyPost P fn R) a w) : Calls P f #[x, y, z] w R :=
  calls_of_wp hf hb (by rw [hN]; exact h _ (khas_enter3 x y z N h3))
theorem padded_length (l : List Nat) : (padded l).length = l.length + roomOf l.length := by simp [padded, endL]
theorem half_sq (sq : Nat → Nat) : half sq 8 = (List.range 8).map (sq32 sq) := rfl
theorem sha_out (cu sq : Nat → Nat) (l : List Nat) : outK (hashK cu (sq32 sq) (fun i => (padded l).getD i 0) ((l.length + roomOf l.length) / 64)) 32 = sha cu sq l := rfl
set_option maxHeartbeats 4000000 in
set_option maxRecDepth 100000 in
theorem rsum_any (w : World) (cu sq : Nat → Nat) (l : List Nat) (bl : Bytes l) (pb : Option Addr) (cb : Nat) (hb : SB w (.slice pb l.length cb) l) (ll : l.length < 1000000) (R : Ref w cu sq) (gr : Nat) (S : Rs w gr) :
    Calls Tryd.prog 23 #[.slice pb l.length cb, .int .i64 32, .slice (some ⟨gr, 0, none⟩) 12 12] w fun e w' => ∃ v, e = .returned v ∧ OwL w.heap.size w' v (sha cu sq l) ∧ Below w.heap.size w w' := by
  refine kcalls_enter3 380 Tryd.func23 rfl Tryd.ntmps23 (by decide) fun a h => ?_
  have w4 : IntKind.i64.wrap 4 = 4 := by rw [IntKind.wrap_i64]; rfl
  repeat refine wp_seq ?_
  refine wp_region_seq ?_
  refine seqC h 6 rfl rfl rfl rfl ?_
  clear h
  intro a h
  refine wpSeq_nil ?_
  show Code.wp _ _ _ _ _
  repeat refine wp_seq ?_
  refine wp_region_seq ?_
  refine seqM h 32 1 rfl rfl rfl rfl rfl ?_
  clear h
  intro a h
  refine seqH h 33 (Value.int .i64 4) rfl rfl (Or.inl ⟨rfl, fun w' hw' => by
      subst hw'
      have e32 : a.eval (.tmp 32) = _ := h.ev 32 rfl
      simp only [execOp, e32]
      go_simp⟩) ?_
  clear h
  intro a h
  refine seqA h 7 33 rfl rfl rfl rfl rfl ?_
  clear h
  intro a h
  refine wpSeq_nil ?_
  show Code.wp _ _ _ _ _
  repeat refine wp_seq ?_
  refine wp_region_seq ?_
  refine seqC h 8 rfl rfl rfl rfl ?_
  clear h
  intro a h
  refine wpSeq_nil ?_
  show Code.wp _ _ _ _ _
  repeat refine wp_seq ?_
  refine wp_region_seq ?_
  refine seqM h 34 1 rfl rfl rfl rfl rfl ?_
  clear h
  intro a h
  refine seqH h 35 (Value.bool false) rfl rfl (Or.inl ⟨rfl, fun w' hw' => by
      subst hw'
      have e34 : a.eval (.tmp 34) = _ := h.ev 34 rfl
      simp only [execOp, e34]
      go_simp⟩) ?_
  clear h
  intro a h
  refine wpSeq_nil ?_
  show Code.wp _ _ _ _ _
  refine wp_cond (t := false) (h.ev 35 rfl) ?_
  refine wp_skip ?_
  show Code.wp _ _ _ _ _
  repeat refine wp_seq ?_
  refine wp_region_seq ?_
  refine seqC h 9 rfl rfl rfl rfl ?_
  clear h
  intro a h
  refine seqC h 10 rfl rfl rfl rfl ?_
  clear h
  intro a h
  refine wpSeq_nil ?_
  show Code.wp _ _ _ _ _
  repeat refine wp_seq ?_
  refine wp_region_seq ?_
  refine seqC h 11 rfl rfl rfl rfl ?_
  clear h
  intro a h
  refine wpSeq_nil ?_
  show Code.wp _ _ _ _ _
  refine wp_block ?_
  refine loop0_any cu sq w (.slice pb l.length cb) (.slice (some ⟨gr, 0, none⟩) 12 12) R a (h.trim _ ?_) ?_
  · intro p hp
    simp only [kbase0, List.mem_cons, List.not_mem_nil, or_false] at hp
    rcases hp with rfl | rfl | rfl | rfl | rfl | rfl | rfl | rfl <;> rfl
  clear h a
  intro a w1 v h O1 b1
  rcases O1.row with ⟨_, hx⟩ | ⟨g3, c3, rfl, hg3, hc3, T1⟩
  · simp [half] at hx
  rw [half_length] at h hc3
  clear O1
  have R1 := R.below b1
  show Code.wp _ _ _ _ _
  repeat refine wp_seq ?_
  refine wp_region_seq ?_
  refine seqC h 12 rfl rfl rfl rfl ?_
  clear h
  intro a h
  refine wpSeq_nil ?_
  show Code.wp _ _ _ _ _
  refine wp_block ?_
  refine loop1_any cu sq w1 (.slice pb l.length cb) (.slice (some ⟨gr, 0, none⟩) 12 12) (.slice (some ⟨g3, 0, none⟩) 64 c3) R1 a (h.trim _ ?_) ?_
  · intro p hp
    simp only [kbase1, List.mem_cons, List.not_mem_nil, or_false] at hp
    rcases hp with rfl | rfl | rfl | rfl | rfl | rfl | rfl | rfl <;> rfl
  clear h a
  intro a w2 v h O2 b2
  rcases O2.row with ⟨_, hx⟩ | ⟨gh, ch, rfl, hgh, hch, H2⟩
  · simp [half] at hx
  rw [half_length] at h hch
  rw [half_sq] at H2
  clear O2 R1
  have T2 := T1.below b2
  have B2 : Below w.heap.size w w2 := b1.trans (b2.mono b1.size)
  have hb2 := hb.below B2
  have S2 := S.of_block (B2.block gr S.blk)
  have lsq : ∀ i, i < 8 → sq32 sq i < 4294967296 := fun i _ => by have := R.lsq i; unfold sq32; omega
  have LCU : Hid (∀ i, cu i < 18446744073709551616) := Lib.hid R.lcu
  have mS := S.blk
  have mT := T1.blk
  have mH := H2.blk
  clear R b1 b2 T1 hb S
  show Code.wp _ _ _ _ _
  repeat refine wp_seq ?_
  refine wp_region_seq ?_
  have O0 := ow_none w2.heap.size w2 (Nat.le_refl _)
  have B0 : Below w2.heap.size w2 _ := (Below.refl _ _).alloc (Nat.le_refl _) (.cells #[] 5)
  obtain ⟨v5, w5, r5, O5, g5, _⟩ := append_sb w2.heap.size _ 22 _ _ [] l O0 (hb2.below B0) (by simp; omega) B0.size
  have B5 : Below w2.heap.size w2 w5 := below_grown' B0 g5 (fun j hj => (O0.lt j hj).1) B0.size
  rw [List.nil_append] at O5
  have b6 : Below w5.heap.size w5 (w5.alloc (.cells #[.int .u8 128] 5)) := (Below.refl _ _).alloc (Nat.le_refl _) _
  have W6 := byte_row w5 128
  rw [show ((128 : Nat) : Int) = 128 from rfl] at W6
  have B6 := B5.trans (b6.mono B5.size)
  obtain ⟨v7, w7, r7, O7, g7, _⟩ := append_ba w2.heap.size _ 22 v5 l [128] (O5.below b6) w5.heap.size 0 1 W6 (by simp; omega) B6.size
  have B7 : Below w2.heap.size w2 w7 := below_grown' B6 g7 (fun j hj => ((O5.below b6).lt j hj).1) B6.size
  rw [show List.length [128] = 1 from rfl] at r7
  rw [show l ++ [128] = msgK l 0 by simp [msgK]] at O7
  refine seqW h 63 (.slice (some ⟨w2.heap.size, 0, none⟩) 0 0) (w2.alloc (.cells #[] 5)) rfl rfl rfl (fun K hK => wp_build_run _ rfl _ _ (run_buildSlice_none _) hK) ?_
  clear h
  intro a h
  refine seqM h 64 0 rfl rfl rfl rfl rfl ?_
  clear h
  intro a h
  refine seqW h 65 v5 w5 rfl rfl rfl (fun K hK => wp_append_run _ _ _ _ rfl _ _ (h.ev 63 rfl) (h.ev 64 rfl) _ _ r5 hK) ?_
  clear h
  intro a h
  refine seqW h 66 (.slice (some ⟨w5.heap.size, 0, none⟩) 1 1) (w5.alloc (.cells #[.int .u8 128] 5)) rfl rfl rfl (fun K hK => by
    unfold Oper.wp execOp
    go_simp
    exact hK) ?_
  clear h
  intro a h
  refine seqW h 67 v7 w7 rfl rfl rfl (fun K hK => wp_append_run _ _ _ _ rfl _ _ (h.ev 65 rfl) (h.ev 66 rfl) _ _ r7 hK) ?_
  clear h
  intro a h
  refine seqA h 13 67 rfl rfl rfl rfl rfl ?_
  clear h
  intro a h
  clear O0 B0 r5 O5 g5 B5 b6 W6 B6 r7 g7 hb2
  refine wpSeq_nil ?_
  show Code.wp _ _ _ _ _
  repeat refine wp_seq ?_
  refine wp_block ?_
  refine loop2_any w2.heap.size w7 l pb cb (.slice (some ⟨gr, 0, none⟩) 12 12) (.slice (some ⟨g3, 0, none⟩) 64 c3) (.slice (some ⟨gh, 0, none⟩) 8 ch) v7 ll a (h.trim _ ?_) O7 B7.size ?_
  · intro p hp
    simp only [baseM, List.mem_cons, List.not_mem_nil, or_false] at hp
    rcases hp with rfl | rfl | rfl | rfl | rfl | rfl | rfl | rfl <;> rfl
  clear h a
  intro a w8 v8 h O8 G8 _
  have B8 : Below w2.heap.size w2 w8 := below_grown' B7 G8 (fun j hj => (O7.lt j hj).1) B7.size
  clear O7 G8 B7
  rw [show msgK l (roomOf l.length - 9) = lenK l 0 by simp [lenK]] at O8
  show Code.wp _ _ _ _ _
  repeat refine wp_seq ?_
  refine wp_region_seq ?_
  refine seqC h 14 rfl rfl rfl rfl ?_
  clear h
  intro a h
  refine wpSeq_nil ?_
  show Code.wp _ _ _ _ _
  refine wp_block ?_
  refine loop3_any w2.heap.size w8 l pb cb (.slice (some ⟨gr, 0, none⟩) 12 12) (.slice (some ⟨g3, 0, none⟩) 64 c3) (.slice (some ⟨gh, 0, none⟩) 8 ch) v8 ll a (h.trim _ ?_) O8 B8.size ?_
  · intro p hp
    simp only [baseM, List.mem_cons, List.not_mem_nil, or_false] at hp
    rcases hp with rfl | rfl | rfl | rfl | rfl | rfl | rfl | rfl | rfl <;> rfl
  clear h a
  intro a w9 v9 h O9 G9 _
  have B9 : Below w2.heap.size w2 w9 := below_grown' B8 G9 (fun j hj => (O8.lt j hj).1) B8.size
  clear O8 G9 B8
  rw [lenK_full] at O9
  have r1 := roomOf_lo l.length
  have r2 := roomOf_hi l.length
  have r3 := roomOf_mod l.length
  have lp := padded_length l
  rcases O9.row with ⟨_, hx⟩ | ⟨gm, cm, rfl, hgm, hcm, _, A9, _⟩
  · rw [hx] at lp
    simp at lp
    omega
  clear O9
  obtain ⟨N, hN⟩ : ∃ N, N = (l.length + roomOf l.length) / 64 := ⟨_, rfl⟩
  show Code.wp _ _ _ _ _
  repeat refine wp_seq ?_
  refine wp_region_seq ?_
  refine seqC h 15 rfl rfl rfl rfl ?_
  clear h
  intro a h
  refine wpSeq_nil ?_
  show Code.wp _ _ _ _ _
  refine wp_block ?_
  have lcu : ∀ i, cu i < 18446744073709551616 := LCU.out
  refine loop4_any w9 cu (sq32 sq) lcu lsq (padded l) (padded_bytes bl) N pb l.length cb gr g3 c3 gh ch gm (padded l).length cm rfl (by rw [lp]; omega) (by rw [lp]; omega) hc3 hch (by omega) (by omega) (by have := B2.size; omega) (fun c a d v w h => by
    cases d <;> exact h) a (h.trim _ ?_) A9 (T2.of_block (B9.block g3 (by have := T2.blk; omega))) (S2.of_block (B9.block gr S2.blk)) (RQ.of_block H2 (B9.block gh mH)) ?_
  · intro p hp
    simp only [baseB, List.mem_cons, List.not_mem_nil, or_false] at hp
    rcases hp with rfl | rfl | rfl | rfl | rfl | rfl | rfl | rfl | rfl <;> rfl
  clear h a
  intro a w10 h F10 G10
  show Code.wp _ _ _ _ _
  repeat refine wp_seq ?_
  refine wp_region_seq ?_
  refine seqC h 30 rfl rfl rfl rfl ?_
  clear h
  intro a h
  refine wpSeq_nil ?_
  show Code.wp _ _ _ _ _
  repeat refine wp_seq ?_
  refine wp_region_seq ?_
  refine seqC h 31 rfl rfl rfl rfl ?_
  clear h
  intro a h
  refine wpSeq_nil ?_
  show Code.wp _ _ _ _ _
  refine wp_block ?_
  refine loop9_any w10 _ (hashK_lt cu (sq32 sq) _ lsq N) gh ch hch (fun c a d v w h => by
    cases d <;> exact h) a (h.trim _ ?_) F10 ?_
  · intro p hp
    simp only [baseO, List.mem_cons, List.not_mem_nil, or_false] at hp
    rcases hp with rfl | rfl | rfl | rfl | rfl <;> rfl
  clear h a
  intro a w11 v h O11 b11
  show Code.wp _ _ _ _ _
  repeat refine wp_seq ?_
  refine wp_region_seq ?_
  refine seqM h 379 30 rfl rfl rfl rfl rfl ?_
  clear h
  intro a h
  refine seqA h 6 379 rfl rfl rfl rfl rfl ?_
  clear h
  intro a h
  refine wpSeq_nil ?_
  show Code.wp _ _ _ _ _
  refine wp_ret ?_
  have B10 : Below w.heap.size w w10 := by
    have b9 : Below w.heap.size w w9 := B2.trans (B9.mono B2.size)
    exact below_grown' b9 G10 (fun j hj => by cases hj; have := B2.size; omega) b9.size
  have B11 := B10.trans (b11.mono B10.size)
  rw [hN, sha_out] at O11
  refine bodyPost_ret (results_tmp rfl _ _ _) h.defers ⟨_, rfl, ?_, B11⟩
  rw [h.val 6 v rfl]
  exact O11.mono B10.size
end Go.Proofs.YtdmhngkedgkndaaDoor
namespace Go.Proofs.YtdmhngkedgkndaaDoor
open Go.RowKit
/-- The first k of the bytes S, noughts behind them. -/
def cpK (S : List Nat) (k : Nat) : List Nat := S.take k ++ List.replicate (32 - k) 0
theorem cpK_length (S : List Nat) (h : S.length = 32) (k : Nat) (hk : k ≤ 32) : (cpK S k).length = 32 := by simp [cpK]; omega
theorem cpK_set (S : List Nat) (h : S.length = 32) (k : Nat) (hk : k < 32) : (cpK S k).set k (S[k]'(by omega)) = cpK S (k + 1) := by
  unfold cpK
  rw [List.set_append_right _ _ (by simp; omega), ← List.take_append_getElem (show k < S.length by omega), List.append_assoc]
  congr 1
  simp only [List.length_take]
  rw [show k - min k S.length = 0 by omega, show 32 - k = (32 - (k + 1)) + 1 by omega, List.replicate_succ, List.set_cons_zero]
  rfl
theorem cpK_full (S : List Nat) (h : S.length = 32) : cpK S 32 = S := by simp [cpK, List.take_of_length_le (show S.length ≤ 32 by omega)]
theorem cpK_get (S : List Nat) (h : S.length = 32) (k : Nat) (hk : k < 32) : (Iv .u8 (NI (cpK S k)))[k]? = some (.int .u8 ((0 : Nat) : Int)) := by
  rw [NI_get _ _ (by rw [cpK_length S h k (by omega)]; exact hk)]
  have e : (cpK S k)[k]? = some 0 := by
    unfold cpK
    rw [List.getElem?_append_right (by simp; omega)]
    simp only [List.length_take]
    rw [show k - min k S.length = 0 by omega, List.getElem?_replicate, if_pos (by omega)]
  rw [List.getElem?_eq_getElem (by rw [cpK_length S h k (by omega)]; exact hk)] at e
  rw [Option.some.inj e]
structure RsW (S : List Nat) (w : World) (gs : Nat) (w1 wr : World) (k : Nat) : Prop where
  res : Blk wr w.heap.size 28 (Iv .u8 (List.replicate 32 0))
  o : Blk wr (w.heap.size + 1) 28 (Iv .u8 (NI (cpK S k)))
  s : BA wr gs 0 S
  b : Below w.heap.size w wr
theorem RsW.step {S : List Nat} {w w1 wr : World} {gs k : Nat} (h : RsW S w gs w1 wr k) (hS : S.length = 32) (hk : k < 32) (hg : gs ≠ w.heap.size + 1) : RsW S w gs w1 (wr.setCell ⟨w.heap.size + 1, k, none⟩ (.int .u8 ((S[k]'(by omega) : Nat) : Int))) (k + 1) := by
  refine ⟨h.res.far (by simp) _, ?_, h.s.of_block (heap_setCell_other wr _ gs _ hg), h.b.setCell (by simp) _⟩
  have hs := h.o.set k (.int .u8 ((S[k]'(by omega) : Nat) : Int))
  rw [Iv_set, NI_set, cpK_set S hS k hk] at hs
  exact hs
def rlC : Array Value := #[.int .i64 7, .int .i64 18, .int .i64 3, .int .i64 17, .int .i64 19, .int .i64 10, .int .i64 6, .int .i64 11, .int .i64 25, .int .i64 2, .int .i64 13, .int .i64 22]
theorem rlC_get (i : Nat) (h : i < 12) : rlC[i]? = some (.int .i64 ((rl.getD i 0 : Nat) : Int)) :=
  match i, h with
  | 0, _ => rfl
  | 1, _ => rfl
  | 2, _ => rfl
  | 3, _ => rfl
  | 4, _ => rfl
  | 5, _ => rfl
  | 6, _ => rfl
  | 7, _ => rfl
  | 8, _ => rfl
  | 9, _ => rfl
  | 10, _ => rfl
  | 11, _ => rfl
theorem rs_new (w : World) : Rs (w.alloc (.cells rlC 3)) w.heap.size := ⟨fun i hi => by rw [(Blk.new w 3 rlC).cell]; exact rlC_get i hi, by simp⟩
set_option maxHeartbeats 4000000 in
set_option maxRecDepth 100000 in
theorem rsha_any (w : World) (cu sq : Nat → Nat) (l : List Nat) (bl : Bytes l) (v : Value) (hb : SB w v l) (ll : l.length < 1000000) (R : Ref w cu sq) :
    Calls Tryd.prog 11 #[v] w fun e w' => e = .returned (.agg (Iv .u8 (NI (sha cu sq l)))) ∧ Below w.heap.size w w' := by
  have hb' := hb
  obtain ⟨pb, cb, rfl, _⟩ := hb'
  go_enter Tryd.func11, Tryd.ntmps11
  go_upto_region 2 with fail
  have b0 : Below w.heap.size w _ := ((Below.refl _ _).alloc (Nat.le_refl _) (.cells (Iv .u8 (List.replicate 32 0)) 28)).alloc (by simp) (.cells (Iv .u8 (List.replicate 32 0)) 28)
  have A0 := (Blk.new w 28 (Iv .u8 (List.replicate 32 0))).alloc (.cells (Iv .u8 (List.replicate 32 0)) 28)
  have A1 := Blk.new' (w := w.alloc (.cells (Iv .u8 (List.replicate 32 0)) 28)) (g := w.heap.size + 1) (by simp) 28 (Iv .u8 (List.replicate 32 0))
  change Code.wp _ _ _ _ (World.alloc (World.alloc w (.cells (Iv .u8 (List.replicate 32 0)) 28)) (.cells (Iv .u8 (List.replicate 32 0)) 28))
  generalize World.alloc (World.alloc w _) _ = W at b0 A0 A1 ⊢
  have b1 : Below W.heap.size W (W.alloc (.cells rlC 3)) := (Below.refl _ _).alloc (Nat.le_refl _) _
  have CS := Lib.hid (rsum_any (W.alloc (.cells rlC 3)) cu sq l bl pb cb ((hb.below b0).below b1) ll ((R.below b0).below b1) W.heap.size (rs_new W))
  unfold rlC at CS b1
  obtain ⟨S, hS⟩ : ∃ S, S = sha cu sq l := ⟨_, rfl⟩
  have lS : S.length = 32 := by rw [hS, sha_length]
  rw [← hS] at CS
  have HS := Lib.hid hS
  clear hS R hb
  go_upto_region 2 with fail
  go_wp2_with fail
  refine CS.out.mono ?_
  rintro _ w1 ⟨vs, rfl, hs, b2⟩
  have B1 : Below w.heap.size w w1 := b0.trans ((b1.trans (b2.mono b1.size)).mono b0.size)
  have A2 := (A0.below' b1).below' b2
  have A3 := (A1.below' b1).below' b2
  rcases hs.row with ⟨_, h0⟩ | ⟨gs, cs, rfl, hgs, hcs, _, hba, _⟩
  · rw [h0] at lS
    cases lS
  have ng : gs ≠ w.heap.size + 1 := by have := A1.lt; simp at hgs; omega
  have F0 : RsW S w gs w1 w1 0 := ⟨A2, by rw [show NI (cpK S 0) = List.replicate 32 0 from rfl]; exact A3, hba, B1⟩
  rw [lS] at hcs ⊢
  clear CS b1 b2 b0 A0 A1 A2 A3 hs hba B1 hgs
  have i9 : (32 : Int) ≤ (cs : Int) := by omega
  go_wp2_with fail
  go_loopw [5] (fun i wr => ∃ k : Nat, k ≤ 32 ∧ i = .int .i64 k ∧ RsW S w gs w1 wr k) (fun i _ => 32 - (intOf i).toNat)
  case atStart => exact ⟨0, by omega, rfl, F0⟩
  case round =>
    obtain ⟨k, hk, rfl, F⟩ := hrel
    clear F0
    by_cases hlt : k < 32
    · have c1 : wr.cell? ⟨gs, k, none⟩ = some (.int .u8 ((S[k]'(by omega) : Nat) : Int)) := by
        have := F.s.cell k (by omega)
        rw [Nat.zero_add] at this
        exact this
      have c2 : wr.cell? ⟨w.heap.size + 1, k, none⟩ = some (.int .u8 ((0 : Nat) : Int)) := by rw [F.o.cell, cpK_get S lS k hlt]
      have f2 := F.o.frozen k
      have i1 : (0 : Int) ≤ (k : Int) := by omega
      have i2 : (k : Int) < 32 := by omega
      have S1 := Lib.hid (F.step lS hlt ng)
      clear F
      go_wp2
      exact ⟨⟨k + 1, by omega, by go_num, S1.out⟩, by simp [intOf]; omega⟩
    · obtain rfl : k = 32 := by omega
      rw [show ((32 : Nat) : Int) = 32 from rfl]
      have HO := F.o
      have HR := F.res
      have HB := F.b
      rw [cpK_full S lS] at HO
      clear F
      go_wp2_with (first | (refine wpList_load_row rfl 28 _ rfl (w.heap.size + 1) rfl 28 _ (0, 0) _ HO Tryd.underlying28 rfl (info_N32 _ lS) ?_) | (refine wpList_store_row rfl 28 _ _ rfl (w.heap.size) (Iv .u8 (NI S)) rfl rfl 28 _ HR (info_N32 _ lS) (by rw [Iv_size, Iv_size, NI_length, lS]; rfl) (Iv_one _ _) ?_))
      exact bodyPost_ret (results_cell_row rfl _ _ _ 28 _ (0, 0) _ rfl (HR.row _) Tryd.underlying28 rfl (info_N32 _ lS)) rfl ⟨by rw [HS.out], below_setRow HB (Nat.le_refl _) _⟩
end Go.Proofs.YtdmhngkedgkndaaDoor
