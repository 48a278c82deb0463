/- The reference's Encrypt: its contract (printed by gena9.py). -/
import Derived.Test.YteaddadmdjjfaaaBl
import Derived.Test.YteaddadmdjjfaaaBj
import Derived.Test.YteaddadmdjjfaaaBf
namespace Go.Proofs.Yteaddadmdjjfaaa
open Go.RowKit

theorem has_enter3 (x y z : Value) (N : Nat) (h3 : 3 ≤ N) : Has N [(0, x), (1, y), (2, z)] ⟨#[x, y, z] ++ Array.replicate (N - 3) undef, []⟩ := by
  refine ⟨by simp; omega, rfl, fun d v hl => ?_⟩
  match d, hl with
  | 0, hl => have e : look [(0, x), (1, y), (2, z)] 0 = some x := rfl
             cases e.symm.trans hl
             simp [Array.getElem?_append]
  | 1, hl => have e : look [(0, x), (1, y), (2, z)] 1 = some y := rfl
             cases e.symm.trans hl
             simp [Array.getElem?_append]
  | 2, hl => have e : look [(0, x), (1, y), (2, z)] 2 = some z := rfl
             cases e.symm.trans hl
             simp [Array.getElem?_append]
  | n + 3, hl => have e : look [(0, x), (1, y), (2, z)] (n + 3) = none := rfl
                 cases e.symm.trans hl
theorem calls_enter3 {P : Program} {f : FuncId} {fn : Func} {c : Code} {x y z : Value} {w : World} {R : Ending → World → Prop} (N : Nat) (hf : P.funcs[f]? = some fn) (hb : fn.body = some c) (hN : fn.ntmps = N) (h3 : 3 ≤ N)
    (h : ∀ a, Has N [(0, x), (1, y), (2, z)] a → c.wp P (bodyPost P fn R) a w) : Calls P f #[x, y, z] w R :=
  calls_of_wp hf hb (by rw [hN]; exact h _ (has_enter3 x y z N h3))
theorem NI_LB (l : List Nat) (h : l.length = 16) : NI (LB fun i => l.getD i 0) = NI l := by rw [LB_of l h]
theorem info_16 (f : Nat → Nat) : (Try.prog.info? 22).map (·.size) = some (Iv .u8 (NI (LB f))).size := by
  rw [Iv_size, NI_length, LB_length]
  kernel_rfl
theorem keysL_length (B k : List Nat) (h : k.length = 16) : (keysL B k).length = 176 := keysF_length B k h 40
theorem keysL_bytes {k : List Nat} (h : ∀ x ∈ k, x < 256) : ∀ x ∈ keysL boxL k, x < 256 := keysF_bytes boxL_bytes h 40
set_option maxHeartbeats 4000000 in
set_option maxRecDepth 100000 in
theorem rencrypt_any (w : World) (bv : Value) (hb : SB w bv boxL) (kk bl : List Nat) (lkk : kk.length = 16) (lbl : bl.length = 16) (bkk : ∀ x ∈ kk, x < 256) (bbl : ∀ x ∈ bl, x < 256) :
    Calls Try.prog 17 #[bv, .agg (Iv .u8 (NI kk)), .agg (Iv .u8 (NI bl))] w fun e w' => e = .returned (.agg (Iv .u8 (NI (encL boxL kk bl)))) ∧ Below w.heap.size w w' := by
  obtain ⟨pB, cB, rfl, hcB, h0 | ⟨gB, oB, rfl, X⟩⟩ := hb
  · have := boxL_length
    rw [h0] at this
    cases this
  rw [boxL_length] at hcB ⊢
  refine calls_enter3 178 Try.func17 rfl Try.ntmps17 (by decide) fun a h => ?_
  have gBl := X.blk
  have b1 : Below w.heap.size w (w.alloc (.cells (Iv .u8 (NI kk)) 22)) := (Below.refl _ _).alloc (Nat.le_refl _) _
  have K1 := BA.of_blk (Blk.new w 22 (Iv .u8 (NI kk)))
  repeat refine wp_seq ?_
  refine wp_region_seq ?_
  refine seqW h 4 (.pointer (some ⟨w.heap.size, 0, none⟩)) (w.alloc (.cells (Iv .u8 (NI kk)) 22)) rfl rfl rfl (fun K hK => by
    have f := h.at_ 1 rfl
    unfold Oper.wp execOp
    go_simp
    exact hK) ?_
  clear h
  intro a h
  have S1 := Lib.hid (show (w.alloc (.cells (Iv .u8 (NI kk)) 22)).heap.size = w.heap.size + 1 by simp)
  generalize World.alloc w _ = V1 at *
  have b2 : Below V1.heap.size V1 (V1.alloc (.cells (Iv .u8 (NI bl)) 22)) := (Below.refl _ _).alloc (Nat.le_refl _) _
  have K2 : B16 (V1.alloc (.cells (Iv .u8 (NI bl)) 22)) V1.heap.size (fun i => bl.getD i 0) := by
    unfold B16
    rw [NI_LB bl lbl]
    exact Blk.new V1 _ _
  refine seqW h 5 (.pointer (some ⟨V1.heap.size, 0, none⟩)) (V1.alloc (.cells (Iv .u8 (NI bl)) 22)) rfl rfl rfl (fun K hK => by
    have f := h.at_ 2 rfl
    unfold Oper.wp execOp
    go_simp
    exact hK) ?_
  clear h
  intro a h
  have S2 := Lib.hid (show (V1.alloc (.cells (Iv .u8 (NI bl)) 22)).heap.size = V1.heap.size + 1 by simp)
  generalize World.alloc V1 _ = V2 at *
  refine wpSeq_allocQ 22 (Iv .u8 (NI (LB fun _ => 0))) rfl (fun W => by go_simp; rfl) ?_
  intro gr W R3 b3 m3
  have h2 := h.put 6 (.pointer (some ⟨gr, 0, none⟩)) rfl
  change wpSeq _ _ _ _ (Act.put a (some 6) _) _
  clear h
  generalize Act.put a (some 6) _ = a2 at h2 ⊢
  have h := h2
  clear h2
  have s3 := Blk.lt R3
  have s1 := S1.out
  have s2 := S2.out
  have K3 := (K1.below b2).below b3
  have B3 : B16 W V1.heap.size (fun i => bl.getD i 0) := Blk.below' K2 b3
  have bw1 : Below w.heap.size w W := (b1.trans (b2.mono b1.size)).trans (b3.mono (Nat.le_trans b1.size b2.size))
  have X3 := X.below bw1
  have gbl : V1.heap.size < W.heap.size := by have := b3.size; omega
  generalize hgb : V1.heap.size = gb at *
  have gkl : w.heap.size < gb := by omega
  clear K1 K2 b1 b2 b3 X
  refine wpSeq_nil ?_
  show Code.wp _ _ _ _ _
  repeat refine wp_seq ?_
  refine wp_region_seq ?_
  have O0 := ow_none W.heap.size W (Nat.le_refl _)
  have B0 : Below W.heap.size W _ := (Below.refl _ _).alloc (Nat.le_refl _) (.cells #[] 5)
  obtain ⟨v5, w5, r5, O5, g5, _⟩ := append_ba W.heap.size _ 24 _ [] kk O0 w.heap.size 0 16 (K3.below B0) (by rw [lkk]; simp) B0.size
  have b5 : Below W.heap.size W w5 := below_grown' B0 g5 (fun j hj => (O0.lt j hj).1) B0.size
  rw [List.nil_append] at O5
  rw [lkk] at r5
  refine seqW h 19 (.slice (some ⟨W.heap.size, 0, none⟩) 0 0) (W.alloc (.cells #[] 5)) rfl rfl rfl (fun K hK => wp_build_run _ rfl _ _ (run_buildSlice_none _) hK) ?_
  clear h
  intro a h
  refine seqH h 20 (Value.slice (some ⟨w.heap.size, 0, none⟩) 16 16) rfl rfl (Or.inl ⟨rfl, fun w' hw' => by
      subst hw'
      have e4 : a.eval (.tmp 4) = _ := h.ev 4 rfl
      simp only [execOp, e4]
      go_simp⟩) ?_
  clear h
  intro a h
  refine seqW h 21 v5 w5 rfl rfl rfl (fun K hK => wp_append_run _ _ _ _ rfl _ _ (h.ev 19 rfl) (h.ev 20 rfl) _ _ r5 hK) ?_
  clear h
  intro a h
  refine seqA h 7 21 rfl rfl rfl rfl rfl ?_
  clear h
  intro a h
  refine wpSeq_nil ?_
  show Code.wp _ _ _ _ _
  repeat refine wp_seq ?_
  refine wp_region_seq ?_
  refine seqC h 8 rfl rfl rfl rfl ?_
  clear h
  intro a h
  refine wpSeq_nil ?_
  show Code.wp _ _ _ _ _
  repeat refine wp_seq ?_
  refine wp_block ?_
  refine eloop0 W gB oB cB (.pointer (some ⟨gb, 0, none⟩)) (.pointer (some ⟨gr, 0, none⟩)) kk lkk bkk X3 (fun c a d v w h => by cases d <;> exact h) a v5 (h.trim _ ?_) w5 ⟨O5, b5⟩ ?_
  · intro p hp
    simp only [base0, List.mem_cons, List.not_mem_nil, or_false] at hp
    rcases hp with rfl | rfl | rfl | rfl | rfl <;> rfl
  clear h a O0 B0 r5 O5 g5 b5 K3
  intro a w7 v h O7 b7
  have lk := keysL_length boxL kk lkk
  have bk := keysL_bytes bkk
  rcases O7.row with ⟨_, hx⟩ | ⟨gk, ck, rfl, hgk, _, _, A7, _⟩
  · rw [hx] at lk
    cases lk
  rw [lk] at h
  have hR : RM w gk gB oB gb gr (keysL boxL kk) boxL (fun i => bl.getD i 0) w7 := ⟨A7, X3.below b7, Blk.below' B3 b7, bw1.trans (b7.mono bw1.size), Blk.below' R3 b7⟩
  have e0 : ∀ i, i < 16 → bl.getD i 0 ^^^ (keysL boxL kk).getD i 0 = (blockF boxL (keysL boxL kk) bl 0).getD i 0 := fun i hi => by
    unfold blockF
    rw [range_map_get _ 16 i hi]
  have henc : encL boxL kk bl = blockF boxL (keysL boxL kk) bl 10 := rfl
  have hl10 := blockF_length boxL (keysL boxL kk) bl 10
  generalize keysL boxL kk = ks at *
  have HE := Lib.hid henc
  clear henc O7 A7 b7 X3 B3 R3
  show Code.wp _ _ _ _ _
  repeat refine wp_seq ?_
  refine wp_region_seq ?_
  refine seqC h 12 rfl rfl rfl rfl ?_
  clear h
  intro a h
  refine wpSeq_nil ?_
  show Code.wp _ _ _ _ _
  refine wp_block ?_
  refine eloop2 w gB oB cB gk ck gb gr ks boxL lk boxL_length bk boxL_bytes (by omega) (by omega) (by omega) (by omega) (fun i => bl.getD i 0) (fun i => getD_lt bbl i) (fun c a d v w h => by cases d <;> exact h) a (h.trim _ ?_) w7 hR ?_
  · intro p hp
    simp only [baseA, List.mem_cons, List.not_mem_nil, or_false] at hp
    rcases hp with rfl | rfl | rfl | rfl | rfl <;> rfl
  clear h a hR
  intro a w8 h hR
  replace hR := hR.congr e0
  show Code.wp _ _ _ _ _
  repeat refine wp_seq ?_
  refine wp_region_seq ?_
  refine seqC h 13 rfl rfl rfl rfl ?_
  clear h
  intro a h
  refine wpSeq_nil ?_
  show Code.wp _ _ _ _ _
  refine wp_block ?_
  refine eloop3 w gB oB cB gk ck gb gr ks lk bk (by omega) (by omega) (by omega) (by omega) bl lbl bbl (fun c a d v w h => by cases d <;> exact h) a (h.trim _ ?_) w8 hR ?_
  · intro p hp
    simp only [baseA, List.mem_cons, List.not_mem_nil, or_false] at hp
    rcases hp with rfl | rfl | rfl | rfl | rfl <;> rfl
  clear h a hR e0
  intro a w9 h hR
  show Code.wp _ _ _ _ _
  repeat refine wp_seq ?_
  refine wp_region_seq ?_
  refine seqH h 177 (.agg (Iv .u8 (NI (LB fun i => (blockF boxL ks bl 10).getD i 0)))) rfl rfl (yieldsIf_row_wanted rfl 22 _ rfl gb (h.ev 5 rfl) 22 _ _ (fun w' hw' => by subst hw'; exact hR.b) Try.underlying22 rfl (info_16 _)) ?_
  clear h
  intro a h
  refine wpSeq_store_row rfl 22 _ _ rfl gr (Iv .u8 (NI (LB fun i => (blockF boxL ks bl 10).getD i 0))) (h.ev 6 rfl) (h.ev 177 rfl) 22 _ hR.r (info_16 _) (by rw [Iv_size, Iv_size, NI_length, NI_length, LB_length, LB_length]) (Iv_one _ _) ?_
  refine wpSeq_nil ?_
  show Code.wp _ _ _ _ _
  refine wp_ret ?_
  have RR := Blk.row hR.r (Iv .u8 (NI (LB fun i => (blockF boxL ks bl 10).getD i 0)))
  have BB := below_setRow hR.bel (g := gr) (by have := bw1.size; omega) (Iv .u8 (NI (LB fun i => (blockF boxL ks bl 10).getD i 0)))
  refine bodyPost_ret (results_cell_row rfl _ _ _ 22 _ (0, 0) _ (h.val 6 _ rfl) RR Try.underlying22 rfl (info_16 _)) h.defers ⟨?_, BB⟩
  rw [NI_LB _ hl10, HE.out]
end Go.Proofs.Yteaddadmdjjfaaa
