/- The reference's sum: the rounds of a block (loop 7). -/
import Derived.Test.YtdmhngkedgkndaaDoorKQg
namespace Go.Proofs.YtdmhngkedgkndaaDoor
open Go.RowKit
def baseV (pb : Option Addr) (n cb gr g3 c3 : Nat) (hv mv : Value) (at_ gw : Nat) : List (Nat × Value) := [(0, .slice pb n cb), (1, .int .i64 32), (2, .slice (some ⟨gr, 0, none⟩) 12 12), (7, .int .i64 4), (8, .int .i64 64), (9, .slice (some ⟨g3, 0, none⟩) 64 c3), (10, hv), (13, mv), (15, .int .i64 (at_ : Int)), (16, .slice (some ⟨gw, 0, none⟩) 64 64)]
/-- What stands in a round. -/
structure RW (w0 : World) (cu : Nat → Nat) (b : Nat → Nat) (gw g3 gr gv : Nat) (s : S8) (w : World) : Prop where
  v : RF w gv 8 s.at
  t : RQ w g3 (half cu 64)
  f : RF w gw 64 (wd b)
  r : Rs w gr
  b : Below w0.heap.size w0 w
theorem RW.below {w0 : World} {cu b : Nat → Nat} {gw g3 gr gv : Nat} {s : S8} {w w2 : World} (h : RW w0 cu b gw g3 gr gv s w) (hb : Below w.heap.size w w2) : RW w0 cu b gw g3 gr gv s w2 :=
  ⟨RQ.below h.v hb, h.t.below hb, RQ.below h.f hb, h.r.of_block (hb.block gr h.r.blk), h.b.trans (hb.mono h.b.size)⟩
theorem RW.drew {w0 : World} {cu b : Nat → Nat} {gw g3 gr gv : Nat} {s : S8} {w : World} (h : RW w0 cu b gw g3 gr gv s w) : RW w0 cu b gw g3 gr gv s w.drew := h.below (below_drew (Below.refl _ _))
theorem rnd_a (s : S8) (k w : Nat) : (s.h + g1 s.e + ei s.e s.f s.g + k + w + (g0 s.a + ma s.a s.b s.c)) % 4294967296 = (rnd s k w).a := by
  unfold rnd tt uu
  simp only
  omega
theorem rnd_e (s : S8) (k w : Nat) : (s.d + (s.h + g1 s.e + ei s.e s.f s.g + k + w)) % 4294967296 = (rnd s k w).e := by
  unfold rnd tt
  simp only
  omega
theorem S8_at (s : S8) : (List.range 8).map s.at = [s.a, s.b, s.c, s.d, s.e, s.f, s.g, s.h] := rfl
theorem build8 (w : World) (s : S8) : RF (w.alloc (.cells #[.int .u64 ((s.a : Nat) : Int), .int .u64 ((s.b : Nat) : Int), .int .u64 ((s.c : Nat) : Int), .int .u64 ((s.d : Nat) : Int), .int .u64 ((s.e : Nat) : Int), .int .u64 ((s.f : Nat) : Int), .int .u64 ((s.g : Nat) : Int), .int .u64 ((s.h : Nat) : Int)] 59)) w.heap.size 8 s.at := by
  unfold RF
  rw [S8_at]
  exact RQ.of_blk (Blk.new w 59 (Iv .u64 (NI [s.a, s.b, s.c, s.d, s.e, s.f, s.g, s.h])))
set_option maxHeartbeats 4000000 in
set_option maxRecDepth 100000 in
theorem loop7_any (w0 : World) (cu : Nat → Nat) (lcu : ∀ i, cu i < 18446744073709551616) (hh b : Nat → Nat) (lh : ∀ i, i < 8 → hh i < 4294967296) (hb : ∀ i, b i < 256) (pb : Option Addr) (n cb gr g3 c3 at_ gw gv0 cv0 : Nat) (hv mv : Value) (hcv : 8 ≤ cv0) (hc3 : 64 ≤ c3) (B0 : Nat) (hB0 : B0 ≤ w0.heap.size) (hg0 : B0 ≤ gv0)
    {Q : Exit → Act → World → Prop} (hQ : ∀ c a d v w, Q (.panic c) (Act.put a d v) w → Q (.panic c) a w) (a : Act) (h : Has 380 ((24, .int .i64 0) :: (23, .slice (some ⟨gv0, 0, none⟩) 8 cv0) :: baseV pb n cb gr g3 c3 hv mv at_ gw) a) (R0 : RW w0 cu b gw g3 gr gv0 (rnds cu hh b 0) w0)
    (hexit : ∀ a' w' gv cv, 8 ≤ cv → B0 ≤ gv → Has 380 ((23, .slice (some ⟨gv, 0, none⟩) 8 cv) :: baseV pb n cb gr g3 c3 hv mv at_ gw) a' → RW w0 cu b gw g3 gr gv (rnds cu hh b 64) w' → Q (.exit 14) a' w') : Code.wp Tryd.prog (.loop (sumLoop 7)) Q a w0 := by
  refine wp_loop (fun a' w' => ∃ (k gv cv : Nat), k ≤ 64 ∧ 8 ≤ cv ∧ B0 ≤ gv ∧ Has 380 ((24, .int .i64 (k : Int)) :: (23, .slice (some ⟨gv, 0, none⟩) 8 cv) :: baseV pb n cb gr g3 c3 hv mv at_ gw) a' ∧ RW w0 cu b gw g3 gr gv (rnds cu hh b k) w') (fun a' _ => 64 - (intOf (a'.tmps.getD 24 undef)).toNat) ?_ ?_
  · exact ⟨0, gv0, cv0, Nat.zero_le _, hcv, hg0, h, R0⟩
  clear h a R0
  rintro a w ⟨k, gv, cv, hk, hcv, hg, h, hL⟩
  have hm : a.tmps.getD 24 undef = .int .i64 (k : Int) := h.val 24 _ rfl
  generalize a.tmps.getD 24 undef = x at hm ⊢
  subst hm
  conv => arg 2; whnf
  refine wp_seq (wp_seq ?_)
  refine wp_region_seq ?_
  by_cases hlt : k < 64
  · have l0 : (k : Int) < 64 := by omega
    have l9 : (0 : Int) ≤ (k : Int) := by omega
    refine seqM h 208 24 rfl rfl rfl rfl rfl ?_
    clear h
    intro a h
    refine seqM h 209 8 rfl rfl rfl rfl rfl ?_
    clear h
    intro a h
    refine seqH h 210 (Value.bool true) rfl rfl (Or.inl ⟨rfl, fun w' hw' => by
        subst hw'
        have e208 : a.eval (.tmp 208) = _ := h.ev 208 rfl
        have e209 : a.eval (.tmp 209) = _ := h.ev 209 rfl
        simp only [execOp, e208, e209]
        go_simp⟩) ?_
    clear h
    intro a h
    refine wpSeq_nil ?_
    show Code.wp _ _ _ _ _
    refine wp_cond (t := true) (h.ev 210 rfl) ?_
    refine wp_skip ?_
    show Code.wp _ _ _ _ _
    refine wp_seq (wp_block (wp_seq ?_))
    have ok := rnds_ok cu hh b lh k
    have es : rnds cu hh b (k + 1) = rnd (rnds cu hh b k) (cu k / 4294967296) (wd b k) := rfl
    generalize rnds cu hh b k = s at hL ok es
    refine wp_region_S (S := RW w0 cu b gw g3 gr gv s) (by kernel_rfl) ?_
    have hS := hL.drew
    clear hL
    generalize w.drew = V at hS ⊢
    have lk := lcu k
    obtain ⟨K, hK⟩ : ∃ K, K = cu k / 4294967296 := ⟨_, rfl⟩
    have lK : K < 4294967296 := by omega
    obtain ⟨Wk, hW⟩ : ∃ W, W = wd b k := ⟨_, rfl⟩
    have lW : Wk < 4294967296 := by rw [hW]; exact wd_lt b hb _
    have ck : ∀ w', RW w0 cu b gw g3 gr gv s w' → w'.cell? ⟨g3, k, none⟩ = some (.int .u64 (K : Int)) := fun w' hw => by
      have := hw.t.cell k (by rw [half_length]; exact hlt)
      rw [this, hK]
      simp [half]
    have cw : ∀ w', RW w0 cu b gw g3 gr gv s w' → w'.cell? ⟨gw, k, none⟩ = some (.int .u64 (Wk : Int)) := fun w' hw => by rw [RF.cell hw.f k hlt, hW]
    have CK := Lib.hid ck
    have CWk := Lib.hid cw
    rw [← hK, ← hW] at es
    have ES := Lib.hid es
    clear ck cw hK hW es
    have z1 : (8 : Int) ≤ (cv : Int) := by omega
    have z2 : (64 : Int) ≤ (c3 : Int) := by omega
    have la := ok.a
    have lb := ok.b
    have lc := ok.c
    have ld := ok.d
    have le := ok.e
    have lf := ok.f
    have lg := ok.g
    have lhh := ok.h
    refine anyM 0 h 213 23 rfl rfl rfl rfl rfl rfl (by kernel_rfl) (by kernel_rfl) (by kernel_rfl) (fun c a w h => hQ _ _ _ _ _ h) hS ?_
    clear h
    intro a h
    refine anyH 1 h 214 (Value.pointer (some ⟨gv, 0, none⟩)) rfl rfl rfl (by kernel_rfl) (by kernel_rfl) (by kernel_rfl) (fun c a w h => hQ _ _ _ _ _ h) (Or.inl ⟨rfl, fun w' hw' => by
        have e213 : a.eval (.tmp 213) = _ := h.ev 213 rfl
        simp only [execOp, e213]
        go_simp⟩) hS ?_
    clear h
    intro a h
    refine anyH 2 h 215 (Value.int .u64 ((s.a : Nat) : Int)) rfl rfl rfl (by kernel_rfl) (by kernel_rfl) (by kernel_rfl) (fun c a w h => hQ _ _ _ _ _ h) (Or.inl ⟨rfl, fun w' hw' => by
        have e214 : a.eval (.tmp 214) = _ := h.ev 214 rfl
        have c1 := RF.cell hw'.v 0 (by decide)
        rw [show s.at 0 = s.a from rfl] at c1
        simp only [execOp, e214]
        go_simp⟩) hS ?_
    clear h
    intro a h
    refine anyM 3 h 216 23 rfl rfl rfl rfl rfl rfl (by kernel_rfl) (by kernel_rfl) (by kernel_rfl) (fun c a w h => hQ _ _ _ _ _ h) hS ?_
    clear h
    intro a h
    refine anyH 4 h 217 (Value.pointer (some ⟨gv, 4, none⟩)) rfl rfl rfl (by kernel_rfl) (by kernel_rfl) (by kernel_rfl) (fun c a w h => hQ _ _ _ _ _ h) (Or.inl ⟨rfl, fun w' hw' => by
        have e216 : a.eval (.tmp 216) = _ := h.ev 216 rfl
        simp only [execOp, e216]
        go_simp⟩) hS ?_
    clear h
    intro a h
    refine anyH 5 h 218 (Value.int .u64 ((s.e : Nat) : Int)) rfl rfl rfl (by kernel_rfl) (by kernel_rfl) (by kernel_rfl) (fun c a w h => hQ _ _ _ _ _ h) (Or.inl ⟨rfl, fun w' hw' => by
        have e217 : a.eval (.tmp 217) = _ := h.ev 217 rfl
        have c1 := RF.cell hw'.v 4 (by decide)
        rw [show s.at 4 = s.e from rfl] at c1
        simp only [execOp, e217]
        go_simp⟩) hS ?_
    clear h
    intro a h
    refine anyA 6 h 25 215 rfl rfl rfl rfl rfl rfl (by kernel_rfl) (by kernel_rfl) (by kernel_rfl) (fun c a w h => hQ _ _ _ _ _ h) hS ?_
    clear h
    intro a h
    refine anyA 7 h 26 218 rfl rfl rfl rfl rfl rfl (by kernel_rfl) (by kernel_rfl) (by kernel_rfl) (fun c a w h => hQ _ _ _ _ _ h) hS ?_
    clear h
    intro a h
    refine wpAnyS_done (by kernel_rfl) ?_ _
    show Code.wp _ _ _ _ _
    refine wp_seq ?_
    refine wp_region_S (S := RW w0 cu b gw g3 gr gv s) (by kernel_rfl) ?_
    replace hS := hS.drew
    generalize V.drew = V at hS ⊢
    obtain ⟨EF, hEF⟩ : ∃ x, x = s.e &&& s.f := ⟨_, rfl⟩
    have lEF : EF < 4294967296 := by rw [hEF]; exact and_lt _ _ le
    obtain ⟨NE, hNE⟩ : ∃ x, x = 18446744073709551615 ^^^ s.e := ⟨_, rfl⟩
    have lNE : NE < 18446744073709551616 := by rw [hNE]; exact Nat.xor_lt_two_pow (n := 64) (by decide) (by omega)
    obtain ⟨NG, hNG⟩ : ∃ x, x = NE &&& s.g := ⟨_, rfl⟩
    have lNG : NG < 4294967296 := by rw [hNG]; exact Nat.lt_of_le_of_lt Nat.and_le_right lg
    obtain ⟨EI, hEI⟩ : ∃ x, x = ei s.e s.f s.g := ⟨_, rfl⟩
    have lEI : EI < 4294967296 := by rw [hEI]; exact ei_lt _ _ _ le
    have b1 : bits .and .u64 ((s.e : Nat) : Int) ((s.f : Nat) : Int) = (EF : Int) := by rw [hEF]; exact u64_and_nat _ _ (by omega) (by omega)
    have b2 : bits .xor .u64 (if IntKind.u64.signed = true then -1 else IntKind.u64.max) ((s.e : Nat) : Int) = (NE : Int) := by rw [hNE]; exact u64_xor_nat 18446744073709551615 s.e (by decide) (by omega)
    have b3 : bits .and .u64 (NE : Int) ((s.g : Nat) : Int) = (NG : Int) := by rw [hNG]; exact u64_and_nat _ _ lNE (by omega)
    have b4 : bits .or .u64 (EF : Int) (NG : Int) = (EI : Int) := by
      rw [u64_or_nat _ _ (by omega) (by omega), hEI, hEF, hNG, hNE, or_ei _ _ _ lg lf]
    have HEI := Lib.hid hEI
    clear hEF hNE hNG hEI
    refine anyM 0 h 219 23 rfl rfl rfl rfl rfl rfl (by kernel_rfl) (by kernel_rfl) (by kernel_rfl) (fun c a w h => hQ _ _ _ _ _ h) hS ?_
    clear h
    intro a h
    refine anyH 1 h 220 (Value.pointer (some ⟨gv, 7, none⟩)) rfl rfl rfl (by kernel_rfl) (by kernel_rfl) (by kernel_rfl) (fun c a w h => hQ _ _ _ _ _ h) (Or.inl ⟨rfl, fun w' hw' => by
        have e219 : a.eval (.tmp 219) = _ := h.ev 219 rfl
        simp only [execOp, e219]
        go_simp⟩) hS ?_
    clear h
    intro a h
    refine anyH 2 h 221 (Value.int .u64 ((s.h : Nat) : Int)) rfl rfl rfl (by kernel_rfl) (by kernel_rfl) (by kernel_rfl) (fun c a w h => hQ _ _ _ _ _ h) (Or.inl ⟨rfl, fun w' hw' => by
        have e220 : a.eval (.tmp 220) = _ := h.ev 220 rfl
        have c1 := RF.cell hw'.v 7 (by decide)
        rw [show s.at 7 = s.h from rfl] at c1
        simp only [execOp, e220]
        go_simp⟩) hS ?_
    clear h
    intro a h
    refine anyM 3 h 222 26 rfl rfl rfl rfl rfl rfl (by kernel_rfl) (by kernel_rfl) (by kernel_rfl) (fun c a w h => hQ _ _ _ _ _ h) hS ?_
    clear h
    intro a h
    refine anyM 4 h 223 2 rfl rfl rfl rfl rfl rfl (by kernel_rfl) (by kernel_rfl) (by kernel_rfl) (fun c a w h => hQ _ _ _ _ _ h) hS ?_
    clear h
    intro a h
    refine anyH 5 h 224 (Value.pointer (some ⟨gr, 6, none⟩)) rfl rfl rfl (by kernel_rfl) (by kernel_rfl) (by kernel_rfl) (fun c a w h => hQ _ _ _ _ _ h) (Or.inl ⟨rfl, fun w' hw' => by
        have e223 : a.eval (.tmp 223) = _ := h.ev 223 rfl
        simp only [execOp, e223]
        go_simp⟩) hS ?_
    clear h
    intro a h
    refine anyH 6 h 225 (Value.int .i64 6) rfl rfl rfl (by kernel_rfl) (by kernel_rfl) (by kernel_rfl) (fun c a w h => hQ _ _ _ _ _ h) (Or.inl ⟨rfl, fun w' hw' => by
        have e224 : a.eval (.tmp 224) = _ := h.ev 224 rfl
        have c1 := hw'.r.cell 6 (by decide)
        rw [show ((rl.getD 6 0 : Nat) : Int) = 6 from rfl] at c1
        simp only [execOp, e224]
        go_simp⟩) hS ?_
    clear h
    intro a h
    refine anyM 7 h 226 1 rfl rfl rfl rfl rfl rfl (by kernel_rfl) (by kernel_rfl) (by kernel_rfl) (fun c a w h => hQ _ _ _ _ _ h) hS ?_
    clear h
    intro a h
    refine anyM 9 h 228 26 rfl rfl rfl rfl rfl rfl (by kernel_rfl) (by kernel_rfl) (by kernel_rfl) (fun c a w h => hQ _ _ _ _ _ h) hS ?_
    clear h
    intro a h
    refine anyM 10 h 229 2 rfl rfl rfl rfl rfl rfl (by kernel_rfl) (by kernel_rfl) (by kernel_rfl) (fun c a w h => hQ _ _ _ _ _ h) hS ?_
    clear h
    intro a h
    refine anyH 11 h 230 (Value.pointer (some ⟨gr, 7, none⟩)) rfl rfl rfl (by kernel_rfl) (by kernel_rfl) (by kernel_rfl) (fun c a w h => hQ _ _ _ _ _ h) (Or.inl ⟨rfl, fun w' hw' => by
        have e229 : a.eval (.tmp 229) = _ := h.ev 229 rfl
        simp only [execOp, e229]
        go_simp⟩) hS ?_
    clear h
    intro a h
    refine anyH 12 h 231 (Value.int .i64 11) rfl rfl rfl (by kernel_rfl) (by kernel_rfl) (by kernel_rfl) (fun c a w h => hQ _ _ _ _ _ h) (Or.inl ⟨rfl, fun w' hw' => by
        have e230 : a.eval (.tmp 230) = _ := h.ev 230 rfl
        have c1 := hw'.r.cell 7 (by decide)
        rw [show ((rl.getD 7 0 : Nat) : Int) = 11 from rfl] at c1
        simp only [execOp, e230]
        go_simp⟩) hS ?_
    clear h
    intro a h
    refine anyM 13 h 232 1 rfl rfl rfl rfl rfl rfl (by kernel_rfl) (by kernel_rfl) (by kernel_rfl) (fun c a w h => hQ _ _ _ _ _ h) hS ?_
    clear h
    intro a h
    refine anyM 16 h 235 26 rfl rfl rfl rfl rfl rfl (by kernel_rfl) (by kernel_rfl) (by kernel_rfl) (fun c a w h => hQ _ _ _ _ _ h) hS ?_
    clear h
    intro a h
    refine anyM 17 h 236 2 rfl rfl rfl rfl rfl rfl (by kernel_rfl) (by kernel_rfl) (by kernel_rfl) (fun c a w h => hQ _ _ _ _ _ h) hS ?_
    clear h
    intro a h
    refine anyH 18 h 237 (Value.pointer (some ⟨gr, 8, none⟩)) rfl rfl rfl (by kernel_rfl) (by kernel_rfl) (by kernel_rfl) (fun c a w h => hQ _ _ _ _ _ h) (Or.inl ⟨rfl, fun w' hw' => by
        have e236 : a.eval (.tmp 236) = _ := h.ev 236 rfl
        simp only [execOp, e236]
        go_simp⟩) hS ?_
    clear h
    intro a h
    refine anyH 19 h 238 (Value.int .i64 25) rfl rfl rfl (by kernel_rfl) (by kernel_rfl) (by kernel_rfl) (fun c a w h => hQ _ _ _ _ _ h) (Or.inl ⟨rfl, fun w' hw' => by
        have e237 : a.eval (.tmp 237) = _ := h.ev 237 rfl
        have c1 := hw'.r.cell 8 (by decide)
        rw [show ((rl.getD 8 0 : Nat) : Int) = 25 from rfl] at c1
        simp only [execOp, e237]
        go_simp⟩) hS ?_
    clear h
    intro a h
    refine anyM 20 h 239 1 rfl rfl rfl rfl rfl rfl (by kernel_rfl) (by kernel_rfl) (by kernel_rfl) (fun c a w h => hQ _ _ _ _ _ h) hS ?_
    clear h
    intro a h
    refine anyM 24 h 243 26 rfl rfl rfl rfl rfl rfl (by kernel_rfl) (by kernel_rfl) (by kernel_rfl) (fun c a w h => hQ _ _ _ _ _ h) hS ?_
    clear h
    intro a h
    refine anyM 25 h 244 23 rfl rfl rfl rfl rfl rfl (by kernel_rfl) (by kernel_rfl) (by kernel_rfl) (fun c a w h => hQ _ _ _ _ _ h) hS ?_
    clear h
    intro a h
    refine anyH 26 h 245 (Value.pointer (some ⟨gv, 5, none⟩)) rfl rfl rfl (by kernel_rfl) (by kernel_rfl) (by kernel_rfl) (fun c a w h => hQ _ _ _ _ _ h) (Or.inl ⟨rfl, fun w' hw' => by
        have e244 : a.eval (.tmp 244) = _ := h.ev 244 rfl
        simp only [execOp, e244]
        go_simp⟩) hS ?_
    clear h
    intro a h
    refine anyH 27 h 246 (Value.int .u64 ((s.f : Nat) : Int)) rfl rfl rfl (by kernel_rfl) (by kernel_rfl) (by kernel_rfl) (fun c a w h => hQ _ _ _ _ _ h) (Or.inl ⟨rfl, fun w' hw' => by
        have e245 : a.eval (.tmp 245) = _ := h.ev 245 rfl
        have c1 := RF.cell hw'.v 5 (by decide)
        rw [show s.at 5 = s.f from rfl] at c1
        simp only [execOp, e245]
        go_simp⟩) hS ?_
    clear h
    intro a h
    refine anyH 28 h 247 (Value.int .u64 (EF : Int)) rfl rfl rfl (by kernel_rfl) (by kernel_rfl) (by kernel_rfl) (fun c a w h => hQ _ _ _ _ _ h) (Or.inl ⟨rfl, fun w' hw' => by
        have e243 : a.eval (.tmp 243) = _ := h.ev 243 rfl
        have e246 : a.eval (.tmp 246) = _ := h.ev 246 rfl
        simp only [execOp, e243, e246]
        go_simp⟩) hS ?_
    clear h
    intro a h
    refine anyM 29 h 248 26 rfl rfl rfl rfl rfl rfl (by kernel_rfl) (by kernel_rfl) (by kernel_rfl) (fun c a w h => hQ _ _ _ _ _ h) hS ?_
    clear h
    intro a h
    refine anyH 30 h 249 (Value.int .u64 (NE : Int)) rfl rfl rfl (by kernel_rfl) (by kernel_rfl) (by kernel_rfl) (fun c a w h => hQ _ _ _ _ _ h) (Or.inl ⟨rfl, fun w' hw' => by
        have e248 : a.eval (.tmp 248) = _ := h.ev 248 rfl
        simp only [execOp, e248]
        go_simp⟩) hS ?_
    clear h
    intro a h
    refine anyM 31 h 250 23 rfl rfl rfl rfl rfl rfl (by kernel_rfl) (by kernel_rfl) (by kernel_rfl) (fun c a w h => hQ _ _ _ _ _ h) hS ?_
    clear h
    intro a h
    refine anyH 32 h 251 (Value.pointer (some ⟨gv, 6, none⟩)) rfl rfl rfl (by kernel_rfl) (by kernel_rfl) (by kernel_rfl) (fun c a w h => hQ _ _ _ _ _ h) (Or.inl ⟨rfl, fun w' hw' => by
        have e250 : a.eval (.tmp 250) = _ := h.ev 250 rfl
        simp only [execOp, e250]
        go_simp⟩) hS ?_
    clear h
    intro a h
    refine anyH 33 h 252 (Value.int .u64 ((s.g : Nat) : Int)) rfl rfl rfl (by kernel_rfl) (by kernel_rfl) (by kernel_rfl) (fun c a w h => hQ _ _ _ _ _ h) (Or.inl ⟨rfl, fun w' hw' => by
        have e251 : a.eval (.tmp 251) = _ := h.ev 251 rfl
        have c1 := RF.cell hw'.v 6 (by decide)
        rw [show s.at 6 = s.g from rfl] at c1
        simp only [execOp, e251]
        go_simp⟩) hS ?_
    clear h
    intro a h
    refine anyH 34 h 253 (Value.int .u64 (NG : Int)) rfl rfl rfl (by kernel_rfl) (by kernel_rfl) (by kernel_rfl) (fun c a w h => hQ _ _ _ _ _ h) (Or.inl ⟨rfl, fun w' hw' => by
        have e249 : a.eval (.tmp 249) = _ := h.ev 249 rfl
        have e252 : a.eval (.tmp 252) = _ := h.ev 252 rfl
        simp only [execOp, e249, e252]
        go_simp⟩) hS ?_
    clear h
    intro a h
    refine anyH 35 h 254 (Value.int .u64 (EI : Int)) rfl rfl rfl (by kernel_rfl) (by kernel_rfl) (by kernel_rfl) (fun c a w h => hQ _ _ _ _ _ h) (Or.inl ⟨rfl, fun w' hw' => by
        have e247 : a.eval (.tmp 247) = _ := h.ev 247 rfl
        have e253 : a.eval (.tmp 253) = _ := h.ev 253 rfl
        simp only [execOp, e247, e253]
        go_simp⟩) hS ?_
    clear h
    intro a h
    refine anyM 37 h 256 9 rfl rfl rfl rfl rfl rfl (by kernel_rfl) (by kernel_rfl) (by kernel_rfl) (fun c a w h => hQ _ _ _ _ _ h) hS ?_
    clear h
    intro a h
    refine anyM 38 h 257 24 rfl rfl rfl rfl rfl rfl (by kernel_rfl) (by kernel_rfl) (by kernel_rfl) (fun c a w h => hQ _ _ _ _ _ h) hS ?_
    clear h
    intro a h
    refine anyH 39 h 258 (Value.pointer (some ⟨g3, k, none⟩)) rfl rfl rfl (by kernel_rfl) (by kernel_rfl) (by kernel_rfl) (fun c a w h => hQ _ _ _ _ _ h) (Or.inl ⟨rfl, fun w' hw' => by
        have e256 : a.eval (.tmp 256) = _ := h.ev 256 rfl
        have e257 : a.eval (.tmp 257) = _ := h.ev 257 rfl
        simp only [execOp, e256, e257]
        go_simp⟩) hS ?_
    clear h
    intro a h
    refine anyH 40 h 259 (Value.int .u64 (K : Int)) rfl rfl rfl (by kernel_rfl) (by kernel_rfl) (by kernel_rfl) (fun c a w h => hQ _ _ _ _ _ h) (Or.inl ⟨rfl, fun w' hw' => by
        have e258 : a.eval (.tmp 258) = _ := h.ev 258 rfl
        have c1 := CK.out w' hw'
        simp only [execOp, e258]
        go_simp⟩) hS ?_
    clear h
    intro a h
    refine anyM 42 h 261 16 rfl rfl rfl rfl rfl rfl (by kernel_rfl) (by kernel_rfl) (by kernel_rfl) (fun c a w h => hQ _ _ _ _ _ h) hS ?_
    clear h
    intro a h
    refine anyM 43 h 262 24 rfl rfl rfl rfl rfl rfl (by kernel_rfl) (by kernel_rfl) (by kernel_rfl) (fun c a w h => hQ _ _ _ _ _ h) hS ?_
    clear h
    intro a h
    refine anyH 44 h 263 (Value.pointer (some ⟨gw, k, none⟩)) rfl rfl rfl (by kernel_rfl) (by kernel_rfl) (by kernel_rfl) (fun c a w h => hQ _ _ _ _ _ h) (Or.inl ⟨rfl, fun w' hw' => by
        have e261 : a.eval (.tmp 261) = _ := h.ev 261 rfl
        have e262 : a.eval (.tmp 262) = _ := h.ev 262 rfl
        simp only [execOp, e261, e262]
        go_simp⟩) hS ?_
    clear h
    intro a h
    refine anyH 45 h 264 (Value.int .u64 (Wk : Int)) rfl rfl rfl (by kernel_rfl) (by kernel_rfl) (by kernel_rfl) (fun c a w h => hQ _ _ _ _ _ h) (Or.inl ⟨rfl, fun w' hw' => by
        have e263 : a.eval (.tmp 263) = _ := h.ev 263 rfl
        have c1 := CWk.out w' hw'
        simp only [execOp, e263]
        go_simp⟩) hS ?_
    clear h
    intro a h
    refine anyW 8 h 227 rfl rfl rfl rfl (by kernel_rfl) (fun v w' => v = .int .u64 ((rr s.e 6 : Nat) : Int) ∧ World.drew V = w') (fun K hK => wp_call_v 32 _ _ _ Tryd.func32 (by kernel_rfl) (by kernel_rfl) rfl 227 rfl #[.int .u64 (s.e : Int), .int .i64 6, .int .i64 32] (by simp [h.ev 222 rfl, h.ev 225 rfl, h.ev 226 rfl]) _ ((turn32_any s.e 6 V le (by decide) (by decide)).mono fun e w' h => ⟨_, h.1, rfl, h.2⟩) hK) ?_
    rintro _ _ ⟨rfl, rfl⟩
    refine ⟨hS.drew, ?_⟩
    clear h
    intro a h
    replace hS := hS.drew
    generalize World.drew V = V at hS ⊢
    refine anyW 14 h 233 rfl rfl rfl rfl (by kernel_rfl) (fun v w' => v = .int .u64 ((rr s.e 11 : Nat) : Int) ∧ World.drew V = w') (fun K hK => wp_call_v 32 _ _ _ Tryd.func32 (by kernel_rfl) (by kernel_rfl) rfl 233 rfl #[.int .u64 (s.e : Int), .int .i64 11, .int .i64 32] (by simp [h.ev 228 rfl, h.ev 231 rfl, h.ev 232 rfl]) _ ((turn32_any s.e 11 V le (by decide) (by decide)).mono fun e w' h => ⟨_, h.1, rfl, h.2⟩) hK) ?_
    rintro _ _ ⟨rfl, rfl⟩
    refine ⟨hS.drew, ?_⟩
    clear h
    intro a h
    replace hS := hS.drew
    generalize World.drew V = V at hS ⊢
    obtain ⟨A1, hA1⟩ : ∃ A1, A1 = rr s.e 6 := ⟨_, rfl⟩
    obtain ⟨A2, hA2⟩ : ∃ A2, A2 = rr s.e 11 := ⟨_, rfl⟩
    have lA1 : A1 < 4294967296 := by rw [hA1]; exact rr_lt _ _ le (by decide) (by decide)
    have lA2 : A2 < 4294967296 := by rw [hA2]; exact rr_lt _ _ le (by decide) (by decide)
    rw [← hA1, ← hA2] at h
    obtain ⟨A4, hA4⟩ : ∃ A4, A4 = A1 ^^^ A2 := ⟨_, rfl⟩
    have lA4 : A4 < 4294967296 := by rw [hA4]; exact xor_lt _ _ lA1 lA2
    have x1 := u64_xor_nat A1 A2 (by omega) (by omega)
    rw [← hA4] at x1
    have HA1 := Lib.hid hA1
    have HA2 := Lib.hid hA2
    have HA4 := Lib.hid hA4
    clear hA1 hA2 hA4
    refine anyH 15 h 234 (Value.int .u64 (A4 : Int)) rfl rfl rfl (by kernel_rfl) (by kernel_rfl) (by kernel_rfl) (fun c a w h => hQ _ _ _ _ _ h) (Or.inl ⟨rfl, fun w' hw' => by
        have e227 : a.eval (.tmp 227) = _ := h.ev 227 rfl
        have e233 : a.eval (.tmp 233) = _ := h.ev 233 rfl
        simp only [execOp, e227, e233]
        go_simp⟩) hS ?_
    clear h
    intro a h
    refine anyW 21 h 240 rfl rfl rfl rfl (by kernel_rfl) (fun v w' => v = .int .u64 ((rr s.e 25 : Nat) : Int) ∧ World.drew V = w') (fun K hK => wp_call_v 32 _ _ _ Tryd.func32 (by kernel_rfl) (by kernel_rfl) rfl 240 rfl #[.int .u64 (s.e : Int), .int .i64 25, .int .i64 32] (by simp [h.ev 235 rfl, h.ev 238 rfl, h.ev 239 rfl]) _ ((turn32_any s.e 25 V le (by decide) (by decide)).mono fun e w' h => ⟨_, h.1, rfl, h.2⟩) hK) ?_
    rintro _ _ ⟨rfl, rfl⟩
    refine ⟨hS.drew, ?_⟩
    clear h
    intro a h
    replace hS := hS.drew
    generalize World.drew V = V at hS ⊢
    obtain ⟨A3, hA3⟩ : ∃ A3, A3 = rr s.e 25 := ⟨_, rfl⟩
    have lA3 : A3 < 4294967296 := by rw [hA3]; exact rr_lt _ _ le (by decide) (by decide)
    rw [← hA3] at h
    obtain ⟨GA, hGA⟩ : ∃ y, y = g1 s.e := ⟨_, rfl⟩
    have lGA : GA < 4294967296 := by rw [hGA]; exact xor_lt _ _ (xor_lt _ _ (rr_lt _ _ le (by decide) (by decide)) (rr_lt _ _ le (by decide) (by decide))) (rr_lt _ _ le (by decide) (by decide))
    have x2 := u64_xor_nat A4 A3 (by omega) (by omega)
    rw [show A4 ^^^ A3 = GA from by rw [hGA, HA4.out, HA1.out, HA2.out, hA3]; rfl] at x2
    have HGA := Lib.hid hGA
    clear hGA hA3 HA1 HA2 HA4
    obtain ⟨T, hT⟩ : ∃ T, T = s.h + GA + EI + K + Wk := ⟨_, rfl⟩
    have t1 : IntKind.u64.wrap (((s.h : Nat) : Int) + (GA : Int)) = ((s.h : Nat) : Int) + (GA : Int) := by rw [IntKind.wrap_u64]; omega
    have t2 : IntKind.u64.wrap (((s.h : Nat) : Int) + (GA : Int) + (EI : Int)) = ((s.h : Nat) : Int) + (GA : Int) + (EI : Int) := by rw [IntKind.wrap_u64]; omega
    have t3 : IntKind.u64.wrap (((s.h : Nat) : Int) + (GA : Int) + (EI : Int) + (K : Int)) = ((s.h : Nat) : Int) + (GA : Int) + (EI : Int) + (K : Int) := by rw [IntKind.wrap_u64]; omega
    have t4 : IntKind.u64.wrap (((s.h : Nat) : Int) + (GA : Int) + (EI : Int) + (K : Int) + (Wk : Int)) = (T : Int) := by rw [IntKind.wrap_u64]; omega
    have lT : T < 4294967296 * 5 := by omega
    have HT := Lib.hid hT
    clear hT
    refine anyH 22 h 241 (Value.int .u64 (GA : Int)) rfl rfl rfl (by kernel_rfl) (by kernel_rfl) (by kernel_rfl) (fun c a w h => hQ _ _ _ _ _ h) (Or.inl ⟨rfl, fun w' hw' => by
        have e234 : a.eval (.tmp 234) = _ := h.ev 234 rfl
        have e240 : a.eval (.tmp 240) = _ := h.ev 240 rfl
        simp only [execOp, e234, e240]
        go_simp⟩) hS ?_
    clear h
    intro a h
    refine anyH 23 h 242 (Value.int .u64 (((s.h : Nat) : Int) + (GA : Int))) rfl rfl rfl (by kernel_rfl) (by kernel_rfl) (by kernel_rfl) (fun c a w h => hQ _ _ _ _ _ h) (Or.inl ⟨rfl, fun w' hw' => by
        have e221 : a.eval (.tmp 221) = _ := h.ev 221 rfl
        have e241 : a.eval (.tmp 241) = _ := h.ev 241 rfl
        simp only [execOp, e221, e241]
        go_simp⟩) hS ?_
    clear h
    intro a h
    refine anyH 36 h 255 (Value.int .u64 (((s.h : Nat) : Int) + (GA : Int) + (EI : Int))) rfl rfl rfl (by kernel_rfl) (by kernel_rfl) (by kernel_rfl) (fun c a w h => hQ _ _ _ _ _ h) (Or.inl ⟨rfl, fun w' hw' => by
        have e242 : a.eval (.tmp 242) = _ := h.ev 242 rfl
        have e254 : a.eval (.tmp 254) = _ := h.ev 254 rfl
        simp only [execOp, e242, e254]
        go_simp⟩) hS ?_
    clear h
    intro a h
    refine anyH 41 h 260 (Value.int .u64 (((s.h : Nat) : Int) + (GA : Int) + (EI : Int) + (K : Int))) rfl rfl rfl (by kernel_rfl) (by kernel_rfl) (by kernel_rfl) (fun c a w h => hQ _ _ _ _ _ h) (Or.inl ⟨rfl, fun w' hw' => by
        have e255 : a.eval (.tmp 255) = _ := h.ev 255 rfl
        have e259 : a.eval (.tmp 259) = _ := h.ev 259 rfl
        simp only [execOp, e255, e259]
        go_simp⟩) hS ?_
    clear h
    intro a h
    refine anyH 46 h 265 (Value.int .u64 (T : Int)) rfl rfl rfl (by kernel_rfl) (by kernel_rfl) (by kernel_rfl) (fun c a w h => hQ _ _ _ _ _ h) (Or.inl ⟨rfl, fun w' hw' => by
        have e260 : a.eval (.tmp 260) = _ := h.ev 260 rfl
        have e264 : a.eval (.tmp 264) = _ := h.ev 264 rfl
        simp only [execOp, e260, e264]
        go_simp⟩) hS ?_
    clear h
    intro a h
    refine anyA 47 h 27 265 rfl rfl rfl rfl rfl rfl (by kernel_rfl) (by kernel_rfl) (by kernel_rfl) (fun c a w h => hQ _ _ _ _ _ h) hS ?_
    clear h
    intro a h
    clear b1 b2 b3 b4 t1 t2 t3 t4 x1 x2 lA1 lA2 lA3 lA4
    refine wpAnyS_done (by kernel_rfl) ?_ _
    show Code.wp _ _ _ _ _
    refine wp_seq ?_
    refine wp_region_S (S := RW w0 cu b gw g3 gr gv s) (by kernel_rfl) ?_
    replace hS := hS.drew
    generalize V.drew = V at hS ⊢
    obtain ⟨AB, hAB⟩ : ∃ x, x = s.a &&& s.b := ⟨_, rfl⟩
    have lAB : AB < 4294967296 := by rw [hAB]; exact and_lt _ _ la
    obtain ⟨AC, hAC⟩ : ∃ x, x = s.a &&& s.c := ⟨_, rfl⟩
    have lAC : AC < 4294967296 := by rw [hAC]; exact and_lt _ _ la
    obtain ⟨BC, hBC⟩ : ∃ x, x = s.b &&& s.c := ⟨_, rfl⟩
    have lBC : BC < 4294967296 := by rw [hBC]; exact and_lt _ _ lb
    obtain ⟨AO, hAO⟩ : ∃ x, x = AB ||| AC := ⟨_, rfl⟩
    have lAO : AO < 18446744073709551616 := by rw [hAO]; exact Nat.or_lt_two_pow (n := 64) (by omega) (by omega)
    obtain ⟨MA, hMA⟩ : ∃ x, x = ma s.a s.b s.c := ⟨_, rfl⟩
    have lMA : MA < 4294967296 := by rw [hMA]; exact ma_lt _ _ _ la lb
    have b1 : bits .and .u64 ((s.a : Nat) : Int) ((s.b : Nat) : Int) = (AB : Int) := by rw [hAB]; exact u64_and_nat _ _ (by omega) (by omega)
    have b2 : bits .and .u64 ((s.a : Nat) : Int) ((s.c : Nat) : Int) = (AC : Int) := by rw [hAC]; exact u64_and_nat _ _ (by omega) (by omega)
    have b3 : bits .and .u64 ((s.b : Nat) : Int) ((s.c : Nat) : Int) = (BC : Int) := by rw [hBC]; exact u64_and_nat _ _ (by omega) (by omega)
    have b4 : bits .or .u64 (AB : Int) (AC : Int) = (AO : Int) := by rw [hAO]; exact u64_or_nat _ _ (by omega) (by omega)
    have b5 : bits .or .u64 (AO : Int) (BC : Int) = (MA : Int) := by
      rw [u64_or_nat _ _ lAO (by omega), hMA, hAO, hAB, hAC, hBC, or_ma]
    have HMA := Lib.hid hMA
    clear hAB hAC hBC hAO hMA
    refine anyM 0 h 266 25 rfl rfl rfl rfl rfl rfl (by kernel_rfl) (by kernel_rfl) (by kernel_rfl) (fun c a w h => hQ _ _ _ _ _ h) hS ?_
    clear h
    intro a h
    refine anyM 1 h 267 2 rfl rfl rfl rfl rfl rfl (by kernel_rfl) (by kernel_rfl) (by kernel_rfl) (fun c a w h => hQ _ _ _ _ _ h) hS ?_
    clear h
    intro a h
    refine anyH 2 h 268 (Value.pointer (some ⟨gr, 9, none⟩)) rfl rfl rfl (by kernel_rfl) (by kernel_rfl) (by kernel_rfl) (fun c a w h => hQ _ _ _ _ _ h) (Or.inl ⟨rfl, fun w' hw' => by
        have e267 : a.eval (.tmp 267) = _ := h.ev 267 rfl
        simp only [execOp, e267]
        go_simp⟩) hS ?_
    clear h
    intro a h
    refine anyH 3 h 269 (Value.int .i64 2) rfl rfl rfl (by kernel_rfl) (by kernel_rfl) (by kernel_rfl) (fun c a w h => hQ _ _ _ _ _ h) (Or.inl ⟨rfl, fun w' hw' => by
        have e268 : a.eval (.tmp 268) = _ := h.ev 268 rfl
        have c1 := hw'.r.cell 9 (by decide)
        rw [show ((rl.getD 9 0 : Nat) : Int) = 2 from rfl] at c1
        simp only [execOp, e268]
        go_simp⟩) hS ?_
    clear h
    intro a h
    refine anyM 4 h 270 1 rfl rfl rfl rfl rfl rfl (by kernel_rfl) (by kernel_rfl) (by kernel_rfl) (fun c a w h => hQ _ _ _ _ _ h) hS ?_
    clear h
    intro a h
    refine anyM 6 h 272 25 rfl rfl rfl rfl rfl rfl (by kernel_rfl) (by kernel_rfl) (by kernel_rfl) (fun c a w h => hQ _ _ _ _ _ h) hS ?_
    clear h
    intro a h
    refine anyM 7 h 273 2 rfl rfl rfl rfl rfl rfl (by kernel_rfl) (by kernel_rfl) (by kernel_rfl) (fun c a w h => hQ _ _ _ _ _ h) hS ?_
    clear h
    intro a h
    refine anyH 8 h 274 (Value.pointer (some ⟨gr, 10, none⟩)) rfl rfl rfl (by kernel_rfl) (by kernel_rfl) (by kernel_rfl) (fun c a w h => hQ _ _ _ _ _ h) (Or.inl ⟨rfl, fun w' hw' => by
        have e273 : a.eval (.tmp 273) = _ := h.ev 273 rfl
        simp only [execOp, e273]
        go_simp⟩) hS ?_
    clear h
    intro a h
    refine anyH 9 h 275 (Value.int .i64 13) rfl rfl rfl (by kernel_rfl) (by kernel_rfl) (by kernel_rfl) (fun c a w h => hQ _ _ _ _ _ h) (Or.inl ⟨rfl, fun w' hw' => by
        have e274 : a.eval (.tmp 274) = _ := h.ev 274 rfl
        have c1 := hw'.r.cell 10 (by decide)
        rw [show ((rl.getD 10 0 : Nat) : Int) = 13 from rfl] at c1
        simp only [execOp, e274]
        go_simp⟩) hS ?_
    clear h
    intro a h
    refine anyM 10 h 276 1 rfl rfl rfl rfl rfl rfl (by kernel_rfl) (by kernel_rfl) (by kernel_rfl) (fun c a w h => hQ _ _ _ _ _ h) hS ?_
    clear h
    intro a h
    refine anyM 13 h 279 25 rfl rfl rfl rfl rfl rfl (by kernel_rfl) (by kernel_rfl) (by kernel_rfl) (fun c a w h => hQ _ _ _ _ _ h) hS ?_
    clear h
    intro a h
    refine anyM 14 h 280 2 rfl rfl rfl rfl rfl rfl (by kernel_rfl) (by kernel_rfl) (by kernel_rfl) (fun c a w h => hQ _ _ _ _ _ h) hS ?_
    clear h
    intro a h
    refine anyH 15 h 281 (Value.pointer (some ⟨gr, 11, none⟩)) rfl rfl rfl (by kernel_rfl) (by kernel_rfl) (by kernel_rfl) (fun c a w h => hQ _ _ _ _ _ h) (Or.inl ⟨rfl, fun w' hw' => by
        have e280 : a.eval (.tmp 280) = _ := h.ev 280 rfl
        simp only [execOp, e280]
        go_simp⟩) hS ?_
    clear h
    intro a h
    refine anyH 16 h 282 (Value.int .i64 22) rfl rfl rfl (by kernel_rfl) (by kernel_rfl) (by kernel_rfl) (fun c a w h => hQ _ _ _ _ _ h) (Or.inl ⟨rfl, fun w' hw' => by
        have e281 : a.eval (.tmp 281) = _ := h.ev 281 rfl
        have c1 := hw'.r.cell 11 (by decide)
        rw [show ((rl.getD 11 0 : Nat) : Int) = 22 from rfl] at c1
        simp only [execOp, e281]
        go_simp⟩) hS ?_
    clear h
    intro a h
    refine anyM 17 h 283 1 rfl rfl rfl rfl rfl rfl (by kernel_rfl) (by kernel_rfl) (by kernel_rfl) (fun c a w h => hQ _ _ _ _ _ h) hS ?_
    clear h
    intro a h
    refine anyM 20 h 286 25 rfl rfl rfl rfl rfl rfl (by kernel_rfl) (by kernel_rfl) (by kernel_rfl) (fun c a w h => hQ _ _ _ _ _ h) hS ?_
    clear h
    intro a h
    refine anyM 21 h 287 23 rfl rfl rfl rfl rfl rfl (by kernel_rfl) (by kernel_rfl) (by kernel_rfl) (fun c a w h => hQ _ _ _ _ _ h) hS ?_
    clear h
    intro a h
    refine anyH 22 h 288 (Value.pointer (some ⟨gv, 1, none⟩)) rfl rfl rfl (by kernel_rfl) (by kernel_rfl) (by kernel_rfl) (fun c a w h => hQ _ _ _ _ _ h) (Or.inl ⟨rfl, fun w' hw' => by
        have e287 : a.eval (.tmp 287) = _ := h.ev 287 rfl
        simp only [execOp, e287]
        go_simp⟩) hS ?_
    clear h
    intro a h
    refine anyH 23 h 289 (Value.int .u64 ((s.b : Nat) : Int)) rfl rfl rfl (by kernel_rfl) (by kernel_rfl) (by kernel_rfl) (fun c a w h => hQ _ _ _ _ _ h) (Or.inl ⟨rfl, fun w' hw' => by
        have e288 : a.eval (.tmp 288) = _ := h.ev 288 rfl
        have c1 := RF.cell hw'.v 1 (by decide)
        rw [show s.at 1 = s.b from rfl] at c1
        simp only [execOp, e288]
        go_simp⟩) hS ?_
    clear h
    intro a h
    refine anyH 24 h 290 (Value.int .u64 (AB : Int)) rfl rfl rfl (by kernel_rfl) (by kernel_rfl) (by kernel_rfl) (fun c a w h => hQ _ _ _ _ _ h) (Or.inl ⟨rfl, fun w' hw' => by
        have e286 : a.eval (.tmp 286) = _ := h.ev 286 rfl
        have e289 : a.eval (.tmp 289) = _ := h.ev 289 rfl
        simp only [execOp, e286, e289]
        go_simp⟩) hS ?_
    clear h
    intro a h
    refine anyM 25 h 291 25 rfl rfl rfl rfl rfl rfl (by kernel_rfl) (by kernel_rfl) (by kernel_rfl) (fun c a w h => hQ _ _ _ _ _ h) hS ?_
    clear h
    intro a h
    refine anyM 26 h 292 23 rfl rfl rfl rfl rfl rfl (by kernel_rfl) (by kernel_rfl) (by kernel_rfl) (fun c a w h => hQ _ _ _ _ _ h) hS ?_
    clear h
    intro a h
    refine anyH 27 h 293 (Value.pointer (some ⟨gv, 2, none⟩)) rfl rfl rfl (by kernel_rfl) (by kernel_rfl) (by kernel_rfl) (fun c a w h => hQ _ _ _ _ _ h) (Or.inl ⟨rfl, fun w' hw' => by
        have e292 : a.eval (.tmp 292) = _ := h.ev 292 rfl
        simp only [execOp, e292]
        go_simp⟩) hS ?_
    clear h
    intro a h
    refine anyH 28 h 294 (Value.int .u64 ((s.c : Nat) : Int)) rfl rfl rfl (by kernel_rfl) (by kernel_rfl) (by kernel_rfl) (fun c a w h => hQ _ _ _ _ _ h) (Or.inl ⟨rfl, fun w' hw' => by
        have e293 : a.eval (.tmp 293) = _ := h.ev 293 rfl
        have c1 := RF.cell hw'.v 2 (by decide)
        rw [show s.at 2 = s.c from rfl] at c1
        simp only [execOp, e293]
        go_simp⟩) hS ?_
    clear h
    intro a h
    refine anyH 29 h 295 (Value.int .u64 (AC : Int)) rfl rfl rfl (by kernel_rfl) (by kernel_rfl) (by kernel_rfl) (fun c a w h => hQ _ _ _ _ _ h) (Or.inl ⟨rfl, fun w' hw' => by
        have e291 : a.eval (.tmp 291) = _ := h.ev 291 rfl
        have e294 : a.eval (.tmp 294) = _ := h.ev 294 rfl
        simp only [execOp, e291, e294]
        go_simp⟩) hS ?_
    clear h
    intro a h
    refine anyH 30 h 296 (Value.int .u64 (AO : Int)) rfl rfl rfl (by kernel_rfl) (by kernel_rfl) (by kernel_rfl) (fun c a w h => hQ _ _ _ _ _ h) (Or.inl ⟨rfl, fun w' hw' => by
        have e290 : a.eval (.tmp 290) = _ := h.ev 290 rfl
        have e295 : a.eval (.tmp 295) = _ := h.ev 295 rfl
        simp only [execOp, e290, e295]
        go_simp⟩) hS ?_
    clear h
    intro a h
    refine anyM 31 h 297 23 rfl rfl rfl rfl rfl rfl (by kernel_rfl) (by kernel_rfl) (by kernel_rfl) (fun c a w h => hQ _ _ _ _ _ h) hS ?_
    clear h
    intro a h
    refine anyH 32 h 298 (Value.pointer (some ⟨gv, 1, none⟩)) rfl rfl rfl (by kernel_rfl) (by kernel_rfl) (by kernel_rfl) (fun c a w h => hQ _ _ _ _ _ h) (Or.inl ⟨rfl, fun w' hw' => by
        have e297 : a.eval (.tmp 297) = _ := h.ev 297 rfl
        simp only [execOp, e297]
        go_simp⟩) hS ?_
    clear h
    intro a h
    refine anyH 33 h 299 (Value.int .u64 ((s.b : Nat) : Int)) rfl rfl rfl (by kernel_rfl) (by kernel_rfl) (by kernel_rfl) (fun c a w h => hQ _ _ _ _ _ h) (Or.inl ⟨rfl, fun w' hw' => by
        have e298 : a.eval (.tmp 298) = _ := h.ev 298 rfl
        have c1 := RF.cell hw'.v 1 (by decide)
        rw [show s.at 1 = s.b from rfl] at c1
        simp only [execOp, e298]
        go_simp⟩) hS ?_
    clear h
    intro a h
    refine anyM 34 h 300 23 rfl rfl rfl rfl rfl rfl (by kernel_rfl) (by kernel_rfl) (by kernel_rfl) (fun c a w h => hQ _ _ _ _ _ h) hS ?_
    clear h
    intro a h
    refine anyH 35 h 301 (Value.pointer (some ⟨gv, 2, none⟩)) rfl rfl rfl (by kernel_rfl) (by kernel_rfl) (by kernel_rfl) (fun c a w h => hQ _ _ _ _ _ h) (Or.inl ⟨rfl, fun w' hw' => by
        have e300 : a.eval (.tmp 300) = _ := h.ev 300 rfl
        simp only [execOp, e300]
        go_simp⟩) hS ?_
    clear h
    intro a h
    refine anyH 36 h 302 (Value.int .u64 ((s.c : Nat) : Int)) rfl rfl rfl (by kernel_rfl) (by kernel_rfl) (by kernel_rfl) (fun c a w h => hQ _ _ _ _ _ h) (Or.inl ⟨rfl, fun w' hw' => by
        have e301 : a.eval (.tmp 301) = _ := h.ev 301 rfl
        have c1 := RF.cell hw'.v 2 (by decide)
        rw [show s.at 2 = s.c from rfl] at c1
        simp only [execOp, e301]
        go_simp⟩) hS ?_
    clear h
    intro a h
    refine anyH 37 h 303 (Value.int .u64 (BC : Int)) rfl rfl rfl (by kernel_rfl) (by kernel_rfl) (by kernel_rfl) (fun c a w h => hQ _ _ _ _ _ h) (Or.inl ⟨rfl, fun w' hw' => by
        have e299 : a.eval (.tmp 299) = _ := h.ev 299 rfl
        have e302 : a.eval (.tmp 302) = _ := h.ev 302 rfl
        simp only [execOp, e299, e302]
        go_simp⟩) hS ?_
    clear h
    intro a h
    refine anyH 38 h 304 (Value.int .u64 (MA : Int)) rfl rfl rfl (by kernel_rfl) (by kernel_rfl) (by kernel_rfl) (fun c a w h => hQ _ _ _ _ _ h) (Or.inl ⟨rfl, fun w' hw' => by
        have e296 : a.eval (.tmp 296) = _ := h.ev 296 rfl
        have e303 : a.eval (.tmp 303) = _ := h.ev 303 rfl
        simp only [execOp, e296, e303]
        go_simp⟩) hS ?_
    clear h
    intro a h
    refine anyW 5 h 271 rfl rfl rfl rfl (by kernel_rfl) (fun v w' => v = .int .u64 ((rr s.a 2 : Nat) : Int) ∧ World.drew V = w') (fun K hK => wp_call_v 32 _ _ _ Tryd.func32 (by kernel_rfl) (by kernel_rfl) rfl 271 rfl #[.int .u64 (s.a : Int), .int .i64 2, .int .i64 32] (by simp [h.ev 266 rfl, h.ev 269 rfl, h.ev 270 rfl]) _ ((turn32_any s.a 2 V la (by decide) (by decide)).mono fun e w' h => ⟨_, h.1, rfl, h.2⟩) hK) ?_
    rintro _ _ ⟨rfl, rfl⟩
    refine ⟨hS.drew, ?_⟩
    clear h
    intro a h
    replace hS := hS.drew
    generalize World.drew V = V at hS ⊢
    refine anyW 11 h 277 rfl rfl rfl rfl (by kernel_rfl) (fun v w' => v = .int .u64 ((rr s.a 13 : Nat) : Int) ∧ World.drew V = w') (fun K hK => wp_call_v 32 _ _ _ Tryd.func32 (by kernel_rfl) (by kernel_rfl) rfl 277 rfl #[.int .u64 (s.a : Int), .int .i64 13, .int .i64 32] (by simp [h.ev 272 rfl, h.ev 275 rfl, h.ev 276 rfl]) _ ((turn32_any s.a 13 V la (by decide) (by decide)).mono fun e w' h => ⟨_, h.1, rfl, h.2⟩) hK) ?_
    rintro _ _ ⟨rfl, rfl⟩
    refine ⟨hS.drew, ?_⟩
    clear h
    intro a h
    replace hS := hS.drew
    generalize World.drew V = V at hS ⊢
    obtain ⟨A1, hA1⟩ : ∃ A1, A1 = rr s.a 2 := ⟨_, rfl⟩
    obtain ⟨A2, hA2⟩ : ∃ A2, A2 = rr s.a 13 := ⟨_, rfl⟩
    have lA1 : A1 < 4294967296 := by rw [hA1]; exact rr_lt _ _ la (by decide) (by decide)
    have lA2 : A2 < 4294967296 := by rw [hA2]; exact rr_lt _ _ la (by decide) (by decide)
    rw [← hA1, ← hA2] at h
    obtain ⟨A4, hA4⟩ : ∃ A4, A4 = A1 ^^^ A2 := ⟨_, rfl⟩
    have lA4 : A4 < 4294967296 := by rw [hA4]; exact xor_lt _ _ lA1 lA2
    have x1 := u64_xor_nat A1 A2 (by omega) (by omega)
    rw [← hA4] at x1
    have HA1 := Lib.hid hA1
    have HA2 := Lib.hid hA2
    have HA4 := Lib.hid hA4
    clear hA1 hA2 hA4
    refine anyH 12 h 278 (Value.int .u64 (A4 : Int)) rfl rfl rfl (by kernel_rfl) (by kernel_rfl) (by kernel_rfl) (fun c a w h => hQ _ _ _ _ _ h) (Or.inl ⟨rfl, fun w' hw' => by
        have e271 : a.eval (.tmp 271) = _ := h.ev 271 rfl
        have e277 : a.eval (.tmp 277) = _ := h.ev 277 rfl
        simp only [execOp, e271, e277]
        go_simp⟩) hS ?_
    clear h
    intro a h
    refine anyW 18 h 284 rfl rfl rfl rfl (by kernel_rfl) (fun v w' => v = .int .u64 ((rr s.a 22 : Nat) : Int) ∧ World.drew V = w') (fun K hK => wp_call_v 32 _ _ _ Tryd.func32 (by kernel_rfl) (by kernel_rfl) rfl 284 rfl #[.int .u64 (s.a : Int), .int .i64 22, .int .i64 32] (by simp [h.ev 279 rfl, h.ev 282 rfl, h.ev 283 rfl]) _ ((turn32_any s.a 22 V la (by decide) (by decide)).mono fun e w' h => ⟨_, h.1, rfl, h.2⟩) hK) ?_
    rintro _ _ ⟨rfl, rfl⟩
    refine ⟨hS.drew, ?_⟩
    clear h
    intro a h
    replace hS := hS.drew
    generalize World.drew V = V at hS ⊢
    obtain ⟨A3, hA3⟩ : ∃ A3, A3 = rr s.a 22 := ⟨_, rfl⟩
    have lA3 : A3 < 4294967296 := by rw [hA3]; exact rr_lt _ _ la (by decide) (by decide)
    rw [← hA3] at h
    obtain ⟨GB, hGB⟩ : ∃ y, y = g0 s.a := ⟨_, rfl⟩
    have lGB : GB < 4294967296 := by rw [hGB]; exact xor_lt _ _ (xor_lt _ _ (rr_lt _ _ la (by decide) (by decide)) (rr_lt _ _ la (by decide) (by decide))) (rr_lt _ _ la (by decide) (by decide))
    have x2 := u64_xor_nat A4 A3 (by omega) (by omega)
    rw [show A4 ^^^ A3 = GB from by rw [hGB, HA4.out, HA1.out, HA2.out, hA3]; rfl] at x2
    have HGB := Lib.hid hGB
    clear hGB hA3 HA1 HA2 HA4
    obtain ⟨U, hU⟩ : ∃ U, U = GB + MA := ⟨_, rfl⟩
    have t1 : IntKind.u64.wrap ((GB : Int) + (MA : Int)) = (U : Int) := by rw [IntKind.wrap_u64]; omega
    have lU : U < 4294967296 * 2 := by omega
    have HU := Lib.hid hU
    clear hU
    refine anyH 19 h 285 (Value.int .u64 (GB : Int)) rfl rfl rfl (by kernel_rfl) (by kernel_rfl) (by kernel_rfl) (fun c a w h => hQ _ _ _ _ _ h) (Or.inl ⟨rfl, fun w' hw' => by
        have e278 : a.eval (.tmp 278) = _ := h.ev 278 rfl
        have e284 : a.eval (.tmp 284) = _ := h.ev 284 rfl
        simp only [execOp, e278, e284]
        go_simp⟩) hS ?_
    clear h
    intro a h
    refine anyH 39 h 305 (Value.int .u64 (U : Int)) rfl rfl rfl (by kernel_rfl) (by kernel_rfl) (by kernel_rfl) (fun c a w h => hQ _ _ _ _ _ h) (Or.inl ⟨rfl, fun w' hw' => by
        have e285 : a.eval (.tmp 285) = _ := h.ev 285 rfl
        have e304 : a.eval (.tmp 304) = _ := h.ev 304 rfl
        simp only [execOp, e285, e304]
        go_simp⟩) hS ?_
    clear h
    intro a h
    refine anyA 40 h 28 305 rfl rfl rfl rfl rfl rfl (by kernel_rfl) (by kernel_rfl) (by kernel_rfl) (fun c a w h => hQ _ _ _ _ _ h) hS ?_
    clear h
    intro a h
    clear b1 b2 b3 b4 b5 t1 x1 x2 lA1 lA2 lA3 lA4
    refine wpAnyS_done (by kernel_rfl) ?_ _
    show Code.wp _ _ _ _ _
    refine wp_region_S (S := RW w0 cu b gw g3 gr gv s) (by kernel_rfl) ?_
    replace hS := hS.drew
    generalize V.drew = V at hS ⊢
    have t1 : IntKind.u64.wrap ((T : Int) + (U : Int)) = (T : Int) + (U : Int) := by rw [IntKind.wrap_u64]; omega
    have t2 : IntKind.u64.wrap (((s.d : Nat) : Int) + (T : Int)) = ((s.d : Nat) : Int) + (T : Int) := by rw [IntKind.wrap_u64]; omega
    refine anyM 0 h 306 27 rfl rfl rfl rfl rfl rfl (by kernel_rfl) (by kernel_rfl) (by kernel_rfl) (fun c a w h => hQ _ _ _ _ _ h) hS ?_
    clear h
    intro a h
    refine anyM 1 h 307 28 rfl rfl rfl rfl rfl rfl (by kernel_rfl) (by kernel_rfl) (by kernel_rfl) (fun c a w h => hQ _ _ _ _ _ h) hS ?_
    clear h
    intro a h
    refine anyH 2 h 308 (Value.int .u64 ((T : Int) + (U : Int))) rfl rfl rfl (by kernel_rfl) (by kernel_rfl) (by kernel_rfl) (fun c a w h => hQ _ _ _ _ _ h) (Or.inl ⟨rfl, fun w' hw' => by
        have e306 : a.eval (.tmp 306) = _ := h.ev 306 rfl
        have e307 : a.eval (.tmp 307) = _ := h.ev 307 rfl
        simp only [execOp, e306, e307]
        go_simp⟩) hS ?_
    clear h
    intro a h
    refine anyM 3 h 309 1 rfl rfl rfl rfl rfl rfl (by kernel_rfl) (by kernel_rfl) (by kernel_rfl) (fun c a w h => hQ _ _ _ _ _ h) hS ?_
    clear h
    intro a h
    refine anyM 5 h 311 23 rfl rfl rfl rfl rfl rfl (by kernel_rfl) (by kernel_rfl) (by kernel_rfl) (fun c a w h => hQ _ _ _ _ _ h) hS ?_
    clear h
    intro a h
    refine anyH 6 h 312 (Value.pointer (some ⟨gv, 0, none⟩)) rfl rfl rfl (by kernel_rfl) (by kernel_rfl) (by kernel_rfl) (fun c a w h => hQ _ _ _ _ _ h) (Or.inl ⟨rfl, fun w' hw' => by
        have e311 : a.eval (.tmp 311) = _ := h.ev 311 rfl
        simp only [execOp, e311]
        go_simp⟩) hS ?_
    clear h
    intro a h
    refine anyH 7 h 313 (Value.int .u64 ((s.a : Nat) : Int)) rfl rfl rfl (by kernel_rfl) (by kernel_rfl) (by kernel_rfl) (fun c a w h => hQ _ _ _ _ _ h) (Or.inl ⟨rfl, fun w' hw' => by
        have e312 : a.eval (.tmp 312) = _ := h.ev 312 rfl
        have c1 := RF.cell hw'.v 0 (by decide)
        rw [show s.at 0 = s.a from rfl] at c1
        simp only [execOp, e312]
        go_simp⟩) hS ?_
    clear h
    intro a h
    refine anyM 8 h 314 23 rfl rfl rfl rfl rfl rfl (by kernel_rfl) (by kernel_rfl) (by kernel_rfl) (fun c a w h => hQ _ _ _ _ _ h) hS ?_
    clear h
    intro a h
    refine anyH 9 h 315 (Value.pointer (some ⟨gv, 1, none⟩)) rfl rfl rfl (by kernel_rfl) (by kernel_rfl) (by kernel_rfl) (fun c a w h => hQ _ _ _ _ _ h) (Or.inl ⟨rfl, fun w' hw' => by
        have e314 : a.eval (.tmp 314) = _ := h.ev 314 rfl
        simp only [execOp, e314]
        go_simp⟩) hS ?_
    clear h
    intro a h
    refine anyH 10 h 316 (Value.int .u64 ((s.b : Nat) : Int)) rfl rfl rfl (by kernel_rfl) (by kernel_rfl) (by kernel_rfl) (fun c a w h => hQ _ _ _ _ _ h) (Or.inl ⟨rfl, fun w' hw' => by
        have e315 : a.eval (.tmp 315) = _ := h.ev 315 rfl
        have c1 := RF.cell hw'.v 1 (by decide)
        rw [show s.at 1 = s.b from rfl] at c1
        simp only [execOp, e315]
        go_simp⟩) hS ?_
    clear h
    intro a h
    refine anyM 11 h 317 23 rfl rfl rfl rfl rfl rfl (by kernel_rfl) (by kernel_rfl) (by kernel_rfl) (fun c a w h => hQ _ _ _ _ _ h) hS ?_
    clear h
    intro a h
    refine anyH 12 h 318 (Value.pointer (some ⟨gv, 2, none⟩)) rfl rfl rfl (by kernel_rfl) (by kernel_rfl) (by kernel_rfl) (fun c a w h => hQ _ _ _ _ _ h) (Or.inl ⟨rfl, fun w' hw' => by
        have e317 : a.eval (.tmp 317) = _ := h.ev 317 rfl
        simp only [execOp, e317]
        go_simp⟩) hS ?_
    clear h
    intro a h
    refine anyH 13 h 319 (Value.int .u64 ((s.c : Nat) : Int)) rfl rfl rfl (by kernel_rfl) (by kernel_rfl) (by kernel_rfl) (fun c a w h => hQ _ _ _ _ _ h) (Or.inl ⟨rfl, fun w' hw' => by
        have e318 : a.eval (.tmp 318) = _ := h.ev 318 rfl
        have c1 := RF.cell hw'.v 2 (by decide)
        rw [show s.at 2 = s.c from rfl] at c1
        simp only [execOp, e318]
        go_simp⟩) hS ?_
    clear h
    intro a h
    refine anyM 14 h 320 23 rfl rfl rfl rfl rfl rfl (by kernel_rfl) (by kernel_rfl) (by kernel_rfl) (fun c a w h => hQ _ _ _ _ _ h) hS ?_
    clear h
    intro a h
    refine anyH 15 h 321 (Value.pointer (some ⟨gv, 3, none⟩)) rfl rfl rfl (by kernel_rfl) (by kernel_rfl) (by kernel_rfl) (fun c a w h => hQ _ _ _ _ _ h) (Or.inl ⟨rfl, fun w' hw' => by
        have e320 : a.eval (.tmp 320) = _ := h.ev 320 rfl
        simp only [execOp, e320]
        go_simp⟩) hS ?_
    clear h
    intro a h
    refine anyH 16 h 322 (Value.int .u64 ((s.d : Nat) : Int)) rfl rfl rfl (by kernel_rfl) (by kernel_rfl) (by kernel_rfl) (fun c a w h => hQ _ _ _ _ _ h) (Or.inl ⟨rfl, fun w' hw' => by
        have e321 : a.eval (.tmp 321) = _ := h.ev 321 rfl
        have c1 := RF.cell hw'.v 3 (by decide)
        rw [show s.at 3 = s.d from rfl] at c1
        simp only [execOp, e321]
        go_simp⟩) hS ?_
    clear h
    intro a h
    refine anyM 17 h 323 27 rfl rfl rfl rfl rfl rfl (by kernel_rfl) (by kernel_rfl) (by kernel_rfl) (fun c a w h => hQ _ _ _ _ _ h) hS ?_
    clear h
    intro a h
    refine anyH 18 h 324 (Value.int .u64 (((s.d : Nat) : Int) + (T : Int))) rfl rfl rfl (by kernel_rfl) (by kernel_rfl) (by kernel_rfl) (fun c a w h => hQ _ _ _ _ _ h) (Or.inl ⟨rfl, fun w' hw' => by
        have e322 : a.eval (.tmp 322) = _ := h.ev 322 rfl
        have e323 : a.eval (.tmp 323) = _ := h.ev 323 rfl
        simp only [execOp, e322, e323]
        go_simp⟩) hS ?_
    clear h
    intro a h
    refine anyM 19 h 325 1 rfl rfl rfl rfl rfl rfl (by kernel_rfl) (by kernel_rfl) (by kernel_rfl) (fun c a w h => hQ _ _ _ _ _ h) hS ?_
    clear h
    intro a h
    refine anyM 21 h 327 23 rfl rfl rfl rfl rfl rfl (by kernel_rfl) (by kernel_rfl) (by kernel_rfl) (fun c a w h => hQ _ _ _ _ _ h) hS ?_
    clear h
    intro a h
    refine anyH 22 h 328 (Value.pointer (some ⟨gv, 4, none⟩)) rfl rfl rfl (by kernel_rfl) (by kernel_rfl) (by kernel_rfl) (fun c a w h => hQ _ _ _ _ _ h) (Or.inl ⟨rfl, fun w' hw' => by
        have e327 : a.eval (.tmp 327) = _ := h.ev 327 rfl
        simp only [execOp, e327]
        go_simp⟩) hS ?_
    clear h
    intro a h
    refine anyH 23 h 329 (Value.int .u64 ((s.e : Nat) : Int)) rfl rfl rfl (by kernel_rfl) (by kernel_rfl) (by kernel_rfl) (fun c a w h => hQ _ _ _ _ _ h) (Or.inl ⟨rfl, fun w' hw' => by
        have e328 : a.eval (.tmp 328) = _ := h.ev 328 rfl
        have c1 := RF.cell hw'.v 4 (by decide)
        rw [show s.at 4 = s.e from rfl] at c1
        simp only [execOp, e328]
        go_simp⟩) hS ?_
    clear h
    intro a h
    refine anyM 24 h 330 23 rfl rfl rfl rfl rfl rfl (by kernel_rfl) (by kernel_rfl) (by kernel_rfl) (fun c a w h => hQ _ _ _ _ _ h) hS ?_
    clear h
    intro a h
    refine anyH 25 h 331 (Value.pointer (some ⟨gv, 5, none⟩)) rfl rfl rfl (by kernel_rfl) (by kernel_rfl) (by kernel_rfl) (fun c a w h => hQ _ _ _ _ _ h) (Or.inl ⟨rfl, fun w' hw' => by
        have e330 : a.eval (.tmp 330) = _ := h.ev 330 rfl
        simp only [execOp, e330]
        go_simp⟩) hS ?_
    clear h
    intro a h
    refine anyH 26 h 332 (Value.int .u64 ((s.f : Nat) : Int)) rfl rfl rfl (by kernel_rfl) (by kernel_rfl) (by kernel_rfl) (fun c a w h => hQ _ _ _ _ _ h) (Or.inl ⟨rfl, fun w' hw' => by
        have e331 : a.eval (.tmp 331) = _ := h.ev 331 rfl
        have c1 := RF.cell hw'.v 5 (by decide)
        rw [show s.at 5 = s.f from rfl] at c1
        simp only [execOp, e331]
        go_simp⟩) hS ?_
    clear h
    intro a h
    refine anyM 27 h 333 23 rfl rfl rfl rfl rfl rfl (by kernel_rfl) (by kernel_rfl) (by kernel_rfl) (fun c a w h => hQ _ _ _ _ _ h) hS ?_
    clear h
    intro a h
    refine anyH 28 h 334 (Value.pointer (some ⟨gv, 6, none⟩)) rfl rfl rfl (by kernel_rfl) (by kernel_rfl) (by kernel_rfl) (fun c a w h => hQ _ _ _ _ _ h) (Or.inl ⟨rfl, fun w' hw' => by
        have e333 : a.eval (.tmp 333) = _ := h.ev 333 rfl
        simp only [execOp, e333]
        go_simp⟩) hS ?_
    clear h
    intro a h
    refine anyH 29 h 335 (Value.int .u64 ((s.g : Nat) : Int)) rfl rfl rfl (by kernel_rfl) (by kernel_rfl) (by kernel_rfl) (fun c a w h => hQ _ _ _ _ _ h) (Or.inl ⟨rfl, fun w' hw' => by
        have e334 : a.eval (.tmp 334) = _ := h.ev 334 rfl
        have c1 := RF.cell hw'.v 6 (by decide)
        rw [show s.at 6 = s.g from rfl] at c1
        simp only [execOp, e334]
        go_simp⟩) hS ?_
    clear h
    intro a h
    refine anyW 4 h 310 rfl rfl rfl rfl (by kernel_rfl) (fun v w' => v = .int .u64 (((T + U) % 4294967296 : Nat) : Int) ∧ V = w') (fun K hK => wp_call_v 33 _ _ _ Tryd.func33 (by kernel_rfl) (by kernel_rfl) rfl 310 rfl #[.int .u64 ((T + U : Nat) : Int), .int .i64 32] (by simp [h.ev 308 rfl, h.ev 309 rfl]) _ ((cut32_any (T + U) V (by omega)).mono fun e w' h => ⟨_, h.1, rfl, h.2⟩) hK) ?_
    rintro _ _ ⟨rfl, rfl⟩
    refine ⟨hS, ?_⟩
    clear h
    intro a h
    refine anyW 20 h 326 rfl rfl rfl rfl (by kernel_rfl) (fun v w' => v = .int .u64 (((s.d + T) % 4294967296 : Nat) : Int) ∧ V = w') (fun K hK => wp_call_v 33 _ _ _ Tryd.func33 (by kernel_rfl) (by kernel_rfl) rfl 326 rfl #[.int .u64 ((s.d + T : Nat) : Int), .int .i64 32] (by simp [h.ev 324 rfl, h.ev 325 rfl]) _ ((cut32_any (s.d + T) V (by omega)).mono fun e w' h => ⟨_, h.1, rfl, h.2⟩) hK) ?_
    rintro _ _ ⟨rfl, rfl⟩
    refine ⟨hS, ?_⟩
    clear h
    intro a h
    have ea : (T + U) % 4294967296 = (rnd s K Wk).a := by rw [HT.out, HU.out, HGA.out, HGB.out, HEI.out, HMA.out]; exact rnd_a s K Wk
    have ee : (s.d + T) % 4294967296 = (rnd s K Wk).e := by rw [HT.out, HGA.out, HEI.out]; exact rnd_e s K Wk
    rw [ea, ee] at h
    have F2 := build8 V (rnd s K Wk)
    rw [← ES.out] at F2 h
    have e1 : (rnds cu hh b (k + 1)).b = s.a := by rw [ES.out]; rfl
    have e2 : (rnds cu hh b (k + 1)).c = s.b := by rw [ES.out]; rfl
    have e3 : (rnds cu hh b (k + 1)).d = s.c := by rw [ES.out]; rfl
    have e4 : (rnds cu hh b (k + 1)).f = s.e := by rw [ES.out]; rfl
    have e5 : (rnds cu hh b (k + 1)).g = s.f := by rw [ES.out]; rfl
    have e6 : (rnds cu hh b (k + 1)).h = s.g := by rw [ES.out]; rfl
    rw [e1, e2, e3, e4, e5, e6] at F2
    have B2 : Below V.heap.size V _ := (Below.refl _ _).alloc (Nat.le_refl _) (.cells #[.int .u64 (((rnds cu hh b (k + 1)).a : Nat) : Int), .int .u64 ((s.a : Nat) : Int), .int .u64 ((s.b : Nat) : Int), .int .u64 ((s.c : Nat) : Int), .int .u64 (((rnds cu hh b (k + 1)).e : Nat) : Int), .int .u64 ((s.e : Nat) : Int), .int .u64 ((s.f : Nat) : Int), .int .u64 ((s.g : Nat) : Int)] 59)
    obtain ⟨XA, hXA⟩ : ∃ x, x = (rnds cu hh b (k + 1)).a := ⟨_, rfl⟩
    obtain ⟨XE, hXE⟩ : ∃ x, x = (rnds cu hh b (k + 1)).e := ⟨_, rfl⟩
    rw [← hXA, ← hXE] at F2 B2 h
    clear hXA hXE e1 e2 e3 e4 e5 e6 ea ee ES
    refine anyW 30 h 336 rfl rfl rfl rfl (by kernel_rfl) (fun v w' => v = .slice (some ⟨V.heap.size, 0, none⟩) 8 8 ∧ w' = V.alloc (.cells #[.int .u64 (XA : Int), .int .u64 ((s.a : Nat) : Int), .int .u64 ((s.b : Nat) : Int), .int .u64 ((s.c : Nat) : Int), .int .u64 (XE : Int), .int .u64 ((s.e : Nat) : Int), .int .u64 ((s.f : Nat) : Int), .int .u64 ((s.g : Nat) : Int)] 59)) (fun K hK => by
      have f310 := h.at_ 310 rfl
      have f313 := h.at_ 313 rfl
      have f316 := h.at_ 316 rfl
      have f319 := h.at_ 319 rfl
      have f326 := h.at_ 326 rfl
      have f329 := h.at_ 329 rfl
      have f332 := h.at_ 332 rfl
      have f335 := h.at_ 335 rfl
      unfold Oper.wp execOp
      go_simp
      exact hK _ _ ⟨rfl, rfl⟩) ?_
    rintro _ _ ⟨rfl, rfl⟩
    have S2 := hS.below B2
    refine ⟨S2, ?_⟩
    clear h
    intro a h
    have hgn : B0 ≤ V.heap.size := Nat.le_trans hB0 hS.b.size
    have S3 : RW w0 cu b gw g3 gr V.heap.size (rnds cu hh b (k + 1)) _ := ⟨F2, S2.t, S2.f, S2.r, S2.b⟩
    generalize World.alloc V _ = U2 at S2 S3 ⊢
    generalize V.heap.size = gn at S3 h hgn
    clear hS
    have hS := S2
    refine anyA 31 h 23 336 rfl rfl rfl rfl rfl rfl (by kernel_rfl) (by kernel_rfl) (by kernel_rfl) (fun c a w h => hQ _ _ _ _ _ h) hS ?_
    clear h
    intro a h
    refine wpAnyS_done (by kernel_rfl) ?_ _
    clear hS S2 F2 B2
    show Code.wp _ _ _ _ _
    refine wp_region_seq ?_
    have ew : IntKind.i64.wrap ((k : Int) + 1) = (k : Int) + 1 := by rw [IntKind.wrap_i64]; omega
    refine seqM h 211 24 rfl rfl rfl rfl rfl ?_
    clear h
    intro a h
    refine seqH h 212 (Value.int .i64 ((k : Int) + 1)) rfl rfl (Or.inl ⟨rfl, fun w' hw' => by
        subst hw'
        have e211 : a.eval (.tmp 211) = _ := h.ev 211 rfl
        simp only [execOp, e211]
        go_simp⟩) ?_
    clear h
    intro a h
    refine seqA h 24 212 rfl rfl rfl rfl rfl ?_
    clear h
    intro a h
    refine wpSeq_nil ?_
    refine ⟨⟨k + 1, gn, 8, by omega, by omega, hgn, h.trim _ ?_, S3⟩, ?_⟩
    · intro p hp
      simp only [baseV, List.mem_cons, List.not_mem_nil, or_false] at hp
      rcases hp with rfl | rfl | rfl | rfl | rfl | rfl | rfl | rfl | rfl | rfl | rfl | rfl <;> rfl
    · have hm2 : a.tmps.getD 24 undef = .int .i64 ((k + 1 : Nat) : Int) := h.val 24 _ rfl
      rw [hm2]
      simp only [intOf]
      omega
  · have l0 : ¬ ((k : Int) < 64) := by omega
    obtain rfl : k = 64 := by omega
    refine seqM h 208 24 rfl rfl rfl rfl rfl ?_
    clear h
    intro a h
    refine seqM h 209 8 rfl rfl rfl rfl rfl ?_
    clear h
    intro a h
    refine seqH h 210 (Value.bool false) rfl rfl (Or.inl ⟨rfl, fun w' hw' => by
        subst hw'
        have e208 : a.eval (.tmp 208) = _ := h.ev 208 rfl
        have e209 : a.eval (.tmp 209) = _ := h.ev 209 rfl
        simp only [execOp, e208, e209]
        go_simp⟩) ?_
    clear h
    intro a h
    refine wpSeq_nil ?_
    show Code.wp _ _ _ _ _
    refine wp_cond (t := false) (h.ev 210 rfl) ?_
    refine wp_exit ?_
    refine hexit _ _ gv cv hcv hg (h.trim _ ?_) hL
    · intro p hp
      simp only [baseV, List.mem_cons, List.not_mem_nil, or_false] at hp
      rcases hp with rfl | rfl | rfl | rfl | rfl | rfl | rfl | rfl | rfl | rfl | rfl <;> rfl
end Go.Proofs.YtdmhngkedgkndaaDoor
