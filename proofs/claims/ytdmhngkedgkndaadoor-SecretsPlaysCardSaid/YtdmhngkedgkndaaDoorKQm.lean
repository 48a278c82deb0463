/- The reference's Mac: its contract. -/
import Derived.Test.YtdmhngkedgkndaaDoorKQk0KQl
namespace Go.Proofs.YtdmhngkedgkndaaDoor
open Go.RowKit
noncomputable def macLoop : Code := ((Tryd.f13.body.map kloopsOf).getD []).getD 0 .skip
section
variable {P : Program} {ops : Array Oper} {Q : Exit → Act → World → Prop} {N : Nat} {L : List (Nat × Value)} {a : Act} {w : World}
/-- An operation by a relation. -/
theorem seqR {o : Oper} {rest : List Oper} (h : Has N L a) (d : Nat) (_hd : o.dst = some d) (hN : Nat.ble (d + 1) N = true) (hgd : o.guard = none) (R : Value → World → Prop)
    (hw : ∀ K : Act → World → Prop, (∀ v w', R v w' → K (a.put (some d) v) w') → o.wp P a w K Q) (k : ∀ v w', R v w' → ∀ a', Has N ((d, v) :: L) a' → wpSeq P ops Q rest a' w') : wpSeq P ops Q (o :: rest) a w :=
  wpSeq_wp (by simp [Region.wanted, hgd]) (hw _ fun v w' hR => k v w' hR _ (h.put d v hN))
/-- A whole row stored. -/
theorem seqS {o : Oper} {rest : List Oper} (h : Has N L a) (ty : TypeId) (x y : Nat) (hgd : o.guard = none) (hdn : o.dst = none) (ho : o.op = .store ty (.tmp x) (.tmp y)) (g : Nat) (cells : Array Value) (hx : look L x = some (.pointer (some ⟨g, 0, none⟩))) (hy : look L y = some (.agg cells))
    (t : TypeId) (old : Array Value) (hg : Blk w g t old) (hinf : (P.info? ty).map (·.size) = some cells.size) (hold : old.size = cells.size) (h1 : cells.all (·.oneCell') = true) (k : wpSeq P ops Q rest a (w.setRow g cells)) : wpSeq P ops Q (o :: rest) a w := by
  refine wpSeq_store_row hgd ty _ _ ho g cells (h.ev x hx) (h.ev y hy) t old hg hinf hold h1 ?_
  rw [hdn]
  exact k
end
theorem has_enter2 (x y : Value) (N : Nat) (h2 : 2 ≤ N) : Has N [(0, x), (1, y)] ⟨#[x, y] ++ Array.replicate (N - 2) undef, []⟩ := by
  refine ⟨by simp; omega, rfl, fun d v hl => ?_⟩
  match d, hl with
  | 0, hl => have e : look [(0, x), (1, y)] 0 = some x := rfl
             cases e.symm.trans hl
             simp [Array.getElem?_append]
  | 1, hl => have e : look [(0, x), (1, y)] 1 = some y := rfl
             cases e.symm.trans hl
             simp [Array.getElem?_append]
  | n + 2, hl => have e : look [(0, x), (1, y)] (n + 2) = none := rfl
                 cases e.symm.trans hl
theorem calls_enter2 {P : Program} {f : FuncId} {fn : Func} {c : Code} {x y : Value} {w : World} {R : Ending → World → Prop} (N : Nat) (hf : P.funcs[f]? = some fn) (hb : fn.body = some c) (hN : fn.ntmps = N) (h2 : 2 ≤ N)
    (h : ∀ a, Has N [(0, x), (1, y)] a → c.wp P (bodyPost P fn R) a w) : Calls P f #[x, y] w R :=
  calls_of_wp hf hb (by rw [hN]; exact h _ (has_enter2 x y N h2))
def padL (K : List Nat) : List Nat := K ++ List.replicate (64 - K.length) 0
theorem padL_length (K : List Nat) (h : K.length ≤ 64) : (padL K).length = 64 := by simp [padL]; omega
theorem padL_bytes {K : List Nat} (h : Bytes K) : Bytes (padL K) := h.append (Bytes.replicate _ (by decide))
def baseK (pk : Option Addr) (n ck : Nat) (bv : Value) (gr : Nat) : List (Nat × Value) := [(0, .slice pk n ck), (1, bv), (4, .pointer (some ⟨gr, 0, none⟩))]
/-- What stands behind k bytes. -/
structure McW (w0 : World) (K : List Nat) (vi vo : Value) (k : Nat) (w : World) : Prop where
  i : OwL w0.heap.size w vi (xorL 54 ((padL K).take k))
  o : OwL w0.heap.size w vo (xorL 92 ((padL K).take k))
  ne : ∀ g, vi.ownBlock = some g → vo.ownBlock ≠ some g
  b : Below w0.heap.size w0 w
theorem xorL_take (c : Nat) (K : List Nat) (k : Nat) (x : Nat) (hx : (padL K)[k]? = some x) : xorL c ((padL K).take k) ++ [x ^^^ c] = xorL c ((padL K).take (k + 1)) := by
  have hk : k < (padL K).length := (List.getElem?_eq_some_iff.1 hx).1
  have e : (padL K)[k] = x := by
    rw [List.getElem?_eq_getElem hk] at hx
    exact Option.some.inj hx
  rw [← List.take_append_getElem hk, e]
  simp [xorL]
theorem McW.step {w0 : World} {K : List Nat} {vi vo : Value} {k x : Nat} {w : World} (h : McW w0 K vi vo k w) (hx : (padL K)[k]? = some x) (hk : k < 64) (hK : K.length ≤ 64) (_lx : x < 256) :
    ∃ v1 w1 v2 w2, (Builtin.append_ #[22, 22] 22 #[vi, .slice (some ⟨w.heap.size, 0, none⟩) 1 1]).run Tryd.prog (w.alloc (.cells #[.int .u8 ((x ^^^ 54 : Nat) : Int)] 5)) = .ok v1 w1 ∧
      (Builtin.append_ #[22, 22] 22 #[vo, .slice (some ⟨w1.heap.size, 0, none⟩) 1 1]).run Tryd.prog (w1.alloc (.cells #[.int .u8 ((x ^^^ 92 : Nat) : Int)] 5)) = .ok v2 w2 ∧ McW w0 K v1 v2 (k + 1) w2 := by
  have lp := padL_length K hK
  have b1 : Below w.heap.size w (w.alloc (.cells #[.int .u8 ((x ^^^ 54 : Nat) : Int)] 5)) := (Below.refl _ _).alloc (Nat.le_refl _) _
  have W1 := byte_row w (x ^^^ 54)
  have szb := h.b.size
  obtain ⟨v1, w1, r1, O1, g1, o1⟩ := append_ba w0.heap.size _ 22 vi _ [x ^^^ 54] (h.i.below b1) w.heap.size 0 1 W1 (by rw [xorL_length, List.length_take]; simp; omega) (by simp; omega)
  rw [xorL_take 54 K k x hx] at O1
  have B1 : Below w0.heap.size w0 w1 := below_grown' (h.b.trans (b1.mono szb)) g1 (fun j hj => (h.i.lt j hj).1) (by simp; omega)
  have sz1 : w.heap.size < w1.heap.size := by have := g1.size; simp at this; omega
  have Oo : OwL w0.heap.size w1 vo (xorL 92 ((padL K).take k)) := h.o.of_block fun g hg => by
    have hlt := (h.o.lt g hg).2
    exact (g1.block g (by simp; omega) (fun e => h.ne g e.symm hg)).trans (b1.block g hlt)
  have ne1 : ∀ g, v1.ownBlock = some g → vo.ownBlock ≠ some g := fun g hg hg2 => by
    rcases o1 with o1 | o1
    · exact h.ne g (o1 ▸ hg) hg2
    · rw [o1] at hg
      cases hg
      have := (h.o.lt _ hg2).2
      simp at this
      omega
  have b2 : Below w1.heap.size w1 (w1.alloc (.cells #[.int .u8 ((x ^^^ 92 : Nat) : Int)] 5)) := (Below.refl _ _).alloc (Nat.le_refl _) _
  have W2 := byte_row w1 (x ^^^ 92)
  obtain ⟨v2, w2, r2, O2, g2, o2⟩ := append_ba w0.heap.size _ 22 vo _ [x ^^^ 92] (Oo.below b2) w1.heap.size 0 1 W2 (by rw [xorL_length, List.length_take]; simp; omega) (by have := B1.size; simp; omega)
  rw [xorL_take 92 K k x hx] at O2
  have B2 : Below w0.heap.size w0 w2 := below_grown' (B1.trans (b2.mono B1.size)) g2 (fun j hj => (Oo.lt j hj).1) (by have := B1.size; simp; omega)
  refine ⟨v1, w1, v2, w2, r1, r2, O1.of_block (fun g hg => ?_), O2, fun g hg hg2 => ?_, B2⟩
  · have hlt := (O1.lt g hg).2
    exact (g2.block g (by simp; omega) (fun e => ne1 g hg e.symm)).trans (b2.block g hlt)
  · rcases o2 with o2 | o2
    · exact ne1 g hg (o2 ▸ hg2)
    · rw [o2] at hg2
      cases hg2
      have := (O1.lt _ hg).2
      simp at this
      omega
set_option maxHeartbeats 4000000 in
set_option maxRecDepth 100000 in
theorem macLoop_any (w0 : World) (K : List Nat) (bK : Bytes K) (hK : K.length ≤ 64) (pk : Option Addr) (ck : Nat) (bv : Value) (gr : Nat) (hb : SB w0 (.slice pk K.length ck) K) {Q : Exit → Act → World → Prop} (a : Act) (h : Has 47 ((8, .int .i64 0) :: (7, .slice none 0 0) :: (6, .slice none 0 0) :: baseK pk K.length ck bv gr) a)
    (hexit : ∀ a' w' vi vo, Has 47 ((7, vo) :: (6, vi) :: baseK pk K.length ck bv gr) a' → McW w0 K vi vo 64 w' → Q (.exit 0) a' w') : Code.wp Tryd.prog (.loop macLoop) Q a w0 := by
  refine wp_loop (fun a' w' => ∃ (k : Nat) (vi vo : Value), k ≤ 64 ∧ Has 47 ((8, .int .i64 (k : Int)) :: (7, vo) :: (6, vi) :: baseK pk K.length ck bv gr) a' ∧ McW w0 K vi vo k w') (fun a' _ => 64 - (intOf (a'.tmps.getD 8 undef)).toNat) ?_ ?_
  · exact ⟨0, _, _, Nat.zero_le _, h, OwL.nil _ _, OwL.nil _ _, (fun g hg => by cases hg), Below.refl _ _⟩
  clear h a
  rintro a w ⟨k, vi, vo, hk, h, F⟩
  have hm : a.tmps.getD 8 undef = .int .i64 (k : Int) := h.val 8 _ rfl
  generalize a.tmps.getD 8 undef = x at hm ⊢
  subst hm
  have hb1 := hb.below F.b
  have lp := padL_length K hK
  have ew : ∀ j : Nat, j < 64 → IntKind.i64.wrap ((j : Int) + 1) = (j : Int) + 1 := fun j hj => by rw [IntKind.wrap_i64]; omega
  conv => arg 2; whnf
  refine wp_seq (wp_seq ?_)
  refine wp_region_seq ?_
  by_cases hlt : k < 64
  · have l0 : (k : Int) < 64 := by omega
    have ewk := ew k hlt
    have k0 : (0 : Int) ≤ (k : Int) := by omega
    clear ew
    refine seqM h 17 8 rfl rfl rfl rfl rfl ?_
    clear h
    intro a h
    refine seqH h 18 (Value.bool true) rfl rfl (Or.inl ⟨rfl, fun w' hw' => by
        subst hw'
        have e17 : a.eval (.tmp 17) = _ := h.ev 17 rfl
        simp only [execOp, e17]
        go_simp⟩) ?_
    clear h
    intro a h
    refine wpSeq_nil ?_
    show Code.wp _ _ _ _ _
    refine wp_cond (t := true) (h.ev 18 rfl) ?_
    refine wp_skip ?_
    show Code.wp _ _ _ _ _
    refine wp_seq (wp_block (wp_seq ?_))
    refine wp_region_seq ?_
    refine seqC h 9 rfl rfl rfl rfl ?_
    clear h
    intro a h
    refine wpSeq_nil ?_
    show Code.wp _ _ _ _ _
    by_cases hin : k < K.length
    · have l1 : (k : Int) < (K.length : Int) := by omega
      have l2 : ¬ ((K.length : Int) ≤ (k : Int)) := by omega
      repeat refine wp_seq ?_
      refine wp_region_seq ?_
      refine seqM h 21 8 rfl rfl rfl rfl rfl ?_
      clear h
      intro a h
      refine seqM h 22 0 rfl rfl rfl rfl rfl ?_
      clear h
      intro a h
      refine seqH h 23 (Value.int .i64 (K.length : Int)) rfl rfl (Or.inl ⟨rfl, fun w' hw' => by
          subst hw'
          have e22 : a.eval (.tmp 22) = _ := h.ev 22 rfl
          have f22 := h.at_ 22 rfl
          simp only [execOp]
          go_simp⟩) ?_
      clear h
      intro a h
      refine seqH h 24 (Value.bool true) rfl rfl (Or.inl ⟨rfl, fun w' hw' => by
          subst hw'
          have e21 : a.eval (.tmp 21) = _ := h.ev 21 rfl
          have e23 : a.eval (.tmp 23) = _ := h.ev 23 rfl
          simp only [execOp, e21, e23]
          go_simp⟩) ?_
      clear h
      intro a h
      refine wpSeq_nil ?_
      show Code.wp _ _ _ _ _
      refine wp_cond (t := true) (h.ev 24 rfl) ?_
      show Code.wp _ _ _ _ _
      obtain ⟨x, hxk⟩ : ∃ x, x = K[k] := ⟨_, rfl⟩
      have lx : x < 256 := by rw [hxk]; exact bK _ (List.getElem_mem _)
      have hx : (padL K)[k]? = some x := by rw [hxk]; unfold padL; rw [List.getElem?_append_left hin, List.getElem?_eq_getElem hin]
      rcases hb1.at_ with h0 | ⟨g, ob, rfl, hba⟩
      · omega
      have c1 : w.cell? ⟨g, ob + k, none⟩ = some (.int .u8 (x : Int)) := by rw [hba.cell k hin, hxk]
      clear hba hxk
      refine wp_region_seq ?_
      refine seqM h 25 0 rfl rfl rfl rfl rfl ?_
      clear h
      intro a h
      refine seqM h 26 8 rfl rfl rfl rfl rfl ?_
      clear h
      intro a h
      refine seqH h 27 (Value.pointer (some ⟨g, ob + k, none⟩)) rfl rfl (Or.inl ⟨rfl, fun w' hw' => by
          subst hw'
          have e25 : a.eval (.tmp 25) = _ := h.ev 25 rfl
          have e26 : a.eval (.tmp 26) = _ := h.ev 26 rfl
          simp only [execOp, e25, e26]
          go_simp⟩) ?_
      clear h
      intro a h
      refine seqH h 28 (Value.int .u8 (x : Int)) rfl rfl (Or.inl ⟨rfl, fun w' hw' => by
          subst hw'
          have e27 : a.eval (.tmp 27) = _ := h.ev 27 rfl
          simp only [execOp, e27]
          go_simp⟩) ?_
      clear h
      intro a h
      refine seqA h 9 28 rfl rfl rfl rfl rfl ?_
      clear h
      intro a h
      refine wpSeq_nil ?_
      clear c1
      show Code.wp _ _ _ _ _
      obtain ⟨v1, w1, v2, w2, r1, r2, F2⟩ := F.step hx hlt hK lx
      have x1 := u8_xor_nat x 54 lx (by decide)
      have x2 := u8_xor_nat x 92 lx (by decide)
      obtain ⟨Y1, hY1⟩ : ∃ y, y = x ^^^ 54 := ⟨_, rfl⟩
      obtain ⟨Y2, hY2⟩ : ∃ y, y = x ^^^ 92 := ⟨_, rfl⟩
      rw [← hY1] at r1 x1
      rw [← hY2] at r2 x2
      clear hY1 hY2 F hb1
      rw [show ((54 : Nat) : Int) = 54 from rfl] at x1
      rw [show ((92 : Nat) : Int) = 92 from rfl] at x2
      repeat refine wp_seq ?_
      refine wp_region_seq ?_
      refine seqM h 29 6 rfl rfl rfl rfl rfl ?_
      clear h
      intro a h
      refine seqM h 30 9 rfl rfl rfl rfl rfl ?_
      clear h
      intro a h
      refine seqH h 31 (Value.int .u8 (Y1 : Int)) rfl rfl (Or.inl ⟨rfl, fun w' hw' => by
          subst hw'
          have e30 : a.eval (.tmp 30) = _ := h.ev 30 rfl
          simp only [execOp, e30]
          go_simp⟩) ?_
      clear h
      intro a h
      refine seqW h 32 (.slice (some ⟨w.heap.size, 0, none⟩) 1 1) (w.alloc (.cells #[.int .u8 (Y1 : Int)] 5)) rfl rfl rfl (fun K hK => by
        have f31 := h.at_ 31 rfl
        unfold Oper.wp execOp
        go_simp
        exact hK) ?_
      clear h
      intro a h
      refine seqW h 33 v1 w1 rfl rfl rfl (fun K hK => wp_append_run _ _ _ _ rfl _ _ (h.ev 29 rfl) (h.ev 32 rfl) _ _ r1 hK) ?_
      clear h
      intro a h
      refine seqA h 6 33 rfl rfl rfl rfl rfl ?_
      clear h
      intro a h
      refine wpSeq_nil ?_
      show Code.wp _ _ _ _ _
      repeat refine wp_seq ?_
      refine wp_region_seq ?_
      refine seqM h 34 7 rfl rfl rfl rfl rfl ?_
      clear h
      intro a h
      refine seqM h 35 9 rfl rfl rfl rfl rfl ?_
      clear h
      intro a h
      refine seqH h 36 (Value.int .u8 (Y2 : Int)) rfl rfl (Or.inl ⟨rfl, fun w' hw' => by
          subst hw'
          have e35 : a.eval (.tmp 35) = _ := h.ev 35 rfl
          simp only [execOp, e35]
          go_simp⟩) ?_
      clear h
      intro a h
      refine seqW h 37 (.slice (some ⟨w1.heap.size, 0, none⟩) 1 1) (w1.alloc (.cells #[.int .u8 (Y2 : Int)] 5)) rfl rfl rfl (fun K hK => by
        have f36 := h.at_ 36 rfl
        unfold Oper.wp execOp
        go_simp
        exact hK) ?_
      clear h
      intro a h
      refine seqW h 38 v2 w2 rfl rfl rfl (fun K hK => wp_append_run _ _ _ _ rfl _ _ (h.ev 34 rfl) (h.ev 37 rfl) _ _ r2 hK) ?_
      clear h
      intro a h
      refine seqA h 7 38 rfl rfl rfl rfl rfl ?_
      clear h
      intro a h
      refine wpSeq_nil ?_
      show Code.wp _ _ _ _ _
      repeat refine wp_seq ?_
      refine wp_region_seq ?_
      refine seqM h 19 8 rfl rfl rfl rfl rfl ?_
      clear h
      intro a h
      refine seqH h 20 (Value.int .i64 ((k : Int) + 1)) rfl rfl (Or.inl ⟨rfl, fun w' hw' => by
          subst hw'
          have e19 : a.eval (.tmp 19) = _ := h.ev 19 rfl
          simp only [execOp, e19]
          go_simp⟩) ?_
      clear h
      intro a h
      refine seqA h 8 20 rfl rfl rfl rfl rfl ?_
      clear h
      intro a h
      refine wpSeq_nil ?_
      refine ⟨⟨k + 1, v1, v2, by omega, h.trim _ ?_, F2⟩, ?_⟩
      · intro p hp
        simp only [baseK, List.mem_cons, List.not_mem_nil, or_false] at hp
        rcases hp with rfl | rfl | rfl | rfl | rfl | rfl <;> rfl
      · have hm2 : a.tmps.getD 8 undef = .int .i64 ((k + 1 : Nat) : Int) := h.val 8 _ rfl
        rw [hm2]
        simp only [intOf]
        omega
    · have l1 : ¬ ((k : Int) < (K.length : Int)) := by omega
      repeat refine wp_seq ?_
      refine wp_region_seq ?_
      refine seqM h 21 8 rfl rfl rfl rfl rfl ?_
      clear h
      intro a h
      refine seqM h 22 0 rfl rfl rfl rfl rfl ?_
      clear h
      intro a h
      refine seqH h 23 (Value.int .i64 (K.length : Int)) rfl rfl (Or.inl ⟨rfl, fun w' hw' => by
          subst hw'
          have e22 : a.eval (.tmp 22) = _ := h.ev 22 rfl
          have f22 := h.at_ 22 rfl
          simp only [execOp]
          go_simp⟩) ?_
      clear h
      intro a h
      refine seqH h 24 (Value.bool false) rfl rfl (Or.inl ⟨rfl, fun w' hw' => by
          subst hw'
          have e21 : a.eval (.tmp 21) = _ := h.ev 21 rfl
          have e23 : a.eval (.tmp 23) = _ := h.ev 23 rfl
          simp only [execOp, e21, e23]
          go_simp⟩) ?_
      clear h
      intro a h
      refine wpSeq_nil ?_
      show Code.wp _ _ _ _ _
      refine wp_cond (t := false) (h.ev 24 rfl) ?_
      refine wp_skip ?_
      show Code.wp _ _ _ _ _
      have lx : 0 < 256 := by decide
      have hx : (padL K)[k]? = some 0 := by
        unfold padL
        rw [List.getElem?_append_right (by omega), List.getElem?_replicate, if_pos (by omega)]
      obtain ⟨v1, w1, v2, w2, r1, r2, F2⟩ := F.step hx hlt hK lx
      have x1 := u8_xor_nat 0 54 lx (by decide)
      rw [show ((0 : Nat) : Int) = 0 from rfl] at x1
      have x2 := u8_xor_nat 0 92 lx (by decide)
      rw [show ((0 : Nat) : Int) = 0 from rfl] at x2
      obtain ⟨Y1, hY1⟩ : ∃ y, y = 0 ^^^ 54 := ⟨_, rfl⟩
      obtain ⟨Y2, hY2⟩ : ∃ y, y = 0 ^^^ 92 := ⟨_, rfl⟩
      rw [← hY1] at r1 x1
      rw [← hY2] at r2 x2
      clear hY1 hY2 F hb1
      rw [show ((54 : Nat) : Int) = 54 from rfl] at x1
      rw [show ((92 : Nat) : Int) = 92 from rfl] at x2
      repeat refine wp_seq ?_
      refine wp_region_seq ?_
      refine seqM h 29 6 rfl rfl rfl rfl rfl ?_
      clear h
      intro a h
      refine seqM h 30 9 rfl rfl rfl rfl rfl ?_
      clear h
      intro a h
      refine seqH h 31 (Value.int .u8 (Y1 : Int)) rfl rfl (Or.inl ⟨rfl, fun w' hw' => by
          subst hw'
          have e30 : a.eval (.tmp 30) = _ := h.ev 30 rfl
          simp only [execOp, e30]
          go_simp⟩) ?_
      clear h
      intro a h
      refine seqW h 32 (.slice (some ⟨w.heap.size, 0, none⟩) 1 1) (w.alloc (.cells #[.int .u8 (Y1 : Int)] 5)) rfl rfl rfl (fun K hK => by
        have f31 := h.at_ 31 rfl
        unfold Oper.wp execOp
        go_simp
        exact hK) ?_
      clear h
      intro a h
      refine seqW h 33 v1 w1 rfl rfl rfl (fun K hK => wp_append_run _ _ _ _ rfl _ _ (h.ev 29 rfl) (h.ev 32 rfl) _ _ r1 hK) ?_
      clear h
      intro a h
      refine seqA h 6 33 rfl rfl rfl rfl rfl ?_
      clear h
      intro a h
      refine wpSeq_nil ?_
      show Code.wp _ _ _ _ _
      repeat refine wp_seq ?_
      refine wp_region_seq ?_
      refine seqM h 34 7 rfl rfl rfl rfl rfl ?_
      clear h
      intro a h
      refine seqM h 35 9 rfl rfl rfl rfl rfl ?_
      clear h
      intro a h
      refine seqH h 36 (Value.int .u8 (Y2 : Int)) rfl rfl (Or.inl ⟨rfl, fun w' hw' => by
          subst hw'
          have e35 : a.eval (.tmp 35) = _ := h.ev 35 rfl
          simp only [execOp, e35]
          go_simp⟩) ?_
      clear h
      intro a h
      refine seqW h 37 (.slice (some ⟨w1.heap.size, 0, none⟩) 1 1) (w1.alloc (.cells #[.int .u8 (Y2 : Int)] 5)) rfl rfl rfl (fun K hK => by
        have f36 := h.at_ 36 rfl
        unfold Oper.wp execOp
        go_simp
        exact hK) ?_
      clear h
      intro a h
      refine seqW h 38 v2 w2 rfl rfl rfl (fun K hK => wp_append_run _ _ _ _ rfl _ _ (h.ev 34 rfl) (h.ev 37 rfl) _ _ r2 hK) ?_
      clear h
      intro a h
      refine seqA h 7 38 rfl rfl rfl rfl rfl ?_
      clear h
      intro a h
      refine wpSeq_nil ?_
      show Code.wp _ _ _ _ _
      repeat refine wp_seq ?_
      refine wp_region_seq ?_
      refine seqM h 19 8 rfl rfl rfl rfl rfl ?_
      clear h
      intro a h
      refine seqH h 20 (Value.int .i64 ((k : Int) + 1)) rfl rfl (Or.inl ⟨rfl, fun w' hw' => by
          subst hw'
          have e19 : a.eval (.tmp 19) = _ := h.ev 19 rfl
          simp only [execOp, e19]
          go_simp⟩) ?_
      clear h
      intro a h
      refine seqA h 8 20 rfl rfl rfl rfl rfl ?_
      clear h
      intro a h
      refine wpSeq_nil ?_
      refine ⟨⟨k + 1, v1, v2, by omega, h.trim _ ?_, F2⟩, ?_⟩
      · intro p hp
        simp only [baseK, List.mem_cons, List.not_mem_nil, or_false] at hp
        rcases hp with rfl | rfl | rfl | rfl | rfl | rfl <;> rfl
      · have hm2 : a.tmps.getD 8 undef = .int .i64 ((k + 1 : Nat) : Int) := h.val 8 _ rfl
        rw [hm2]
        simp only [intOf]
        omega
  · have l0 : ¬ ((k : Int) < 64) := by omega
    obtain rfl : k = 64 := by omega
    clear ew
    refine seqM h 17 8 rfl rfl rfl rfl rfl ?_
    clear h
    intro a h
    refine seqH h 18 (Value.bool false) rfl rfl (Or.inl ⟨rfl, fun w' hw' => by
        subst hw'
        have e17 : a.eval (.tmp 17) = _ := h.ev 17 rfl
        simp only [execOp, e17]
        go_simp⟩) ?_
    clear h
    intro a h
    refine wpSeq_nil ?_
    show Code.wp _ _ _ _ _
    refine wp_cond (t := false) (h.ev 18 rfl) ?_
    refine wp_exit ?_
    refine hexit _ _ vi vo (h.trim _ ?_) F
    intro p hp
    simp only [baseK, List.mem_cons, List.not_mem_nil, or_false] at hp
    rcases hp with rfl | rfl | rfl | rfl | rfl <;> rfl
end Go.Proofs.YtdmhngkedgkndaaDoor
