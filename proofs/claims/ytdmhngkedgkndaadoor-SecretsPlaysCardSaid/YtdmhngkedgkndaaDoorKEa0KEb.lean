/- The reference's Expand: its drawn region, by what stands behind each choice. The reference's Expand: its drawn region, walked in any order. -/
import Derived.Test.YtdmhngkedgkndaaDoorKQn
namespace Go.Proofs.YtdmhngkedgkndaaDoor
open Go.RowKit
/-- The regions of a body, by their numbers. -/
def regionsOf : Code → List (Nat × Array Oper)
  | .region i ops _ => [(i, ops)]
  | .loop c => regionsOf c
  | .seq a b => regionsOf a ++ regionsOf b
  | .block _ c => regionsOf c
  | .scope c => regionsOf c
  | .cond _ a b => regionsOf a ++ regionsOf b
  | _ => []
noncomputable def reg5 : Array Oper := (((Tryd.f24.body.map regionsOf).getD []).find? (·.1 == 5)).elim #[] (·.2)
/-- What is listed: the chain's place, the number's row, the key's cell. -/
def listE (c : Nat) (x8 x11 : Bool) : Array Bool := #[true, Nat.ble 1 c, true, Nat.ble 2 c, true, Nat.ble 3 c, true, true, x8, Nat.ble 4 c, Nat.ble 5 c, x11, false]
def nextE (c : Nat) : Nat := [1, 3, 5, 9, 10].getD c 0
theorem ready_in : ∀ c : Fin 6, ∀ x8 x11 : Bool, ∀ i ∈ Region.ready .any reg5 (listE c.val x8 x11), (i = nextE c.val ∧ c.val < 5 ∧ (c.val = 3 → x8 = true)) ∨ (i = 8 ∧ x8 = false) ∨ (i = 11 ∧ x11 = false) ∨ (i = 12 ∧ c.val = 5 ∧ x8 = true ∧ x11 = true) := by decide +kernel
theorem ready_ne : ∀ c : Fin 6, ∀ x8 x11 : Bool, Region.ready .any reg5 (listE c.val x8 x11) ≠ [] := by decide +kernel
theorem ready_end : Region.ready .any reg5 (listE 5 true true) = [12] := by decide +kernel
theorem list_next : ∀ c : Fin 5, ∀ x8 x11 : Bool, (listE c.val x8 x11).setIfInBounds (nextE c.val) true = listE (c.val + 1) x8 x11 := by decide +kernel
theorem list_8 : ∀ c : Fin 6, ∀ x11 : Bool, (listE c.val false x11).setIfInBounds 8 true = listE c.val true x11 := by decide +kernel
theorem list_11 : ∀ c : Fin 6, ∀ x8 : Bool, (listE c.val x8 false).setIfInBounds 11 true = listE c.val x8 true := by decide +kernel
theorem list_0 : (((((Array.replicate 13 false).setIfInBounds 0 true).setIfInBounds 2 true).setIfInBounds 4 true).setIfInBounds 6 true).setIfInBounds 7 true = listE 0 false false := by decide +kernel
section
variable {P : Program} {ops : Array Oper} {Q : Exit → Act → World → Prop} {K : Act → World → Prop} {a : Act} {w : World}
theorem opR (i : Nat) {oi : Oper} (hi : ops.toList[i]? = some oi) (d : Nat) (_hd : oi.dst = some d) (hgd : oi.guard = none) (R : Value → World → Prop)
    (hw : ∀ K' : Act → World → Prop, (∀ v w', R v w' → K' (a.put (some d) v) w') → oi.wp P a w K' Q) (k : ∀ v w', R v w' → K (a.put (some d) v) w') : wpOp P ops Q i K a w := by
  unfold wpOp
  rw [← Array.getElem?_toList, hi]
  have hwd : Region.wanted oi (yielded ops a.tmps) = true := by simp [Region.wanted, hgd]
  simp only [hwd, if_true]
  left
  exact hw _ k
end
theorem kgetD_put {a : Act} {d e : Nat} (v : Value) (h : d ≠ e) : (a.put (some d) v).tmps.getD e undef = a.tmps.getD e undef := by
  simp [Act.put, Array.getD_eq_getD_getElem?, h]
theorem getD_put_self {a : Act} {d : Nat} (v : Value) (h : d < a.tmps.size) : (a.put (some d) v).tmps.getD d undef = v := by
  simp [Act.put, h]
theorem Has.keep {N : Nat} {L : List (Nat × Value)} {a : Act} (h : Has N L a) (d : Nat) (v : Value) (_hd : Nat.ble (d + 1) N = true) (hl : look L d = none) : Has N L (a.put (some d) v) := by
  refine ⟨by simp [Act.put, h.size], h.defers, fun e u he => ?_⟩
  have hne : d ≠ e := fun e' => by rw [e', he] at hl; cases hl
  rw [kgetD_put v hne]
  exact h.val e u he
def chE (B : Nat) (r : List Nat) (last info : List Nat) (b : Nat) (v : Value) (a : Act) (w : World) : Nat → Prop
  | 0 => v.ownBlock = none
  | 1 => a.tmps.getD 18 undef = v ∧ OwL B w v []
  | 2 => a.tmps.getD 20 undef = v ∧ OwL B w v last
  | 3 => a.tmps.getD 22 undef = v ∧ OwL B w v (last ++ info)
  | 4 => a.tmps.getD 26 undef = v ∧ OwL B w v (last ++ info ++ [b])
  | _ => v.ownBlock = none ∧ a.tmps.getD 27 undef = .agg (Iv .u8 (NI r))
/-- What stands in each place: c of the chain, with the number's row (x8) and the key's cell (x11), or without. -/
structure EI (W0 : World) (r last info : List Nat) (b : Nat) (L : List (Nat × Value)) (c : Nat) (v : Value) (x8 x11 : Bool) (a : Act) (w : World) : Prop where
  has : Has 37 L a
  bel : Below W0.heap.size W0 w
  ch : chE W0.heap.size r last info b v a w c
  h8 : x8 = true → ∃ g, a.tmps.getD 25 undef = .slice (some ⟨g, 0, none⟩) 1 1 ∧ BA w g 0 [b] ∧ v.ownBlock ≠ some g
  h11 : x11 = true → ∃ g, a.tmps.getD 10 undef = .pointer (some ⟨g, 0, none⟩) ∧ W0.heap.size ≤ g ∧ Blk w g 28 (Iv .u8 (List.replicate 32 0)) ∧ v.ownBlock ≠ some g
section
variable {W0 : World} {r last info : List Nat} {b : Nat} {L : List (Nat × Value)} {v : Value} {x8 x11 : Bool} {a : Act} {w : World}
theorem chE.own {B : Nat} : ∀ {c : Nat}, chE B r last info b v a w c → v.ownBlock = none ∨ ∃ l, OwL B w v l
  | 0, h => Or.inl h
  | 1, h => Or.inr ⟨_, h.2⟩
  | 2, h => Or.inr ⟨_, h.2⟩
  | 3, h => Or.inr ⟨_, h.2⟩
  | 4, h => Or.inr ⟨_, h.2⟩
  | _ + 5, h => Or.inl h.1
theorem chE.lt {B c : Nat} (h : chE B r last info b v a w c) (g : Nat) (hg : v.ownBlock = some g) : B ≤ g ∧ g < w.heap.size := by
  rcases h.own with h | ⟨l, h⟩
  · rw [h] at hg
    cases hg
  · exact h.lt g hg
/-- A slot that the chain doesn't read is written, and the memory grows. -/
theorem chE.put {B : Nat} {w' : World} (d : Nat) (u : Value) (hd : d = 25 ∨ d = 10) (hb : Below w.heap.size w w') : ∀ {c : Nat}, chE B r last info b v a w c → chE B r last info b v (a.put (some d) u) w' c
  | 0, h => h
  | 1, h => ⟨by rw [kgetD_put u (by omega)]; exact h.1, h.2.below hb⟩
  | 2, h => ⟨by rw [kgetD_put u (by omega)]; exact h.1, h.2.below hb⟩
  | 3, h => ⟨by rw [kgetD_put u (by omega)]; exact h.1, h.2.below hb⟩
  | 4, h => ⟨by rw [kgetD_put u (by omega)]; exact h.1, h.2.below hb⟩
  | _ + 5, h => ⟨h.1, by rw [kgetD_put u (by omega)]; exact h.2⟩
/-- The number's row. -/
theorem EI.row {c : Nat} (h : EI W0 r last info b L c v false x11 a w) (hl : look L 25 = none) :
    EI W0 r last info b L c v true x11 (a.put (some 25) (.slice (some ⟨w.heap.size, 0, none⟩) 1 1)) (w.alloc (.cells #[.int .u8 (b : Int)] 5)) := by
  have hb : Below w.heap.size w (w.alloc (.cells #[.int .u8 (b : Int)] 5)) := (Below.refl _ _).alloc (Nat.le_refl _) _
  refine ⟨h.has.keep 25 _ rfl hl, h.bel.trans (hb.mono h.bel.size), h.ch.put 25 _ (Or.inl rfl) hb, fun _ => ⟨w.heap.size, getD_put_self _ (by rw [h.has.size]; decide), byte_row w b, fun e => ?_⟩, fun e => ?_⟩
  · have := (h.ch.lt _ e).2
    omega
  · obtain ⟨g, h1, h2, h3, h4⟩ := h.h11 e
    exact ⟨g, by rw [kgetD_put _ (by decide)]; exact h1, h2, h3.below' hb, h4⟩
/-- The key's cell. -/
theorem EI.cell {c : Nat} (h : EI W0 r last info b L c v x8 false a w) (hl : look L 10 = none) :
    EI W0 r last info b L c v x8 true (a.put (some 10) (.pointer (some ⟨w.heap.size, 0, none⟩))) (w.alloc (.cells (Iv .u8 (List.replicate 32 0)) 28)) := by
  have hb : Below w.heap.size w (w.alloc (.cells (Iv .u8 (List.replicate 32 0)) 28)) := (Below.refl _ _).alloc (Nat.le_refl _) _
  refine ⟨h.has.keep 10 _ rfl hl, h.bel.trans (hb.mono h.bel.size), h.ch.put 10 _ (Or.inr rfl) hb, fun e => ?_, fun _ => ⟨w.heap.size, getD_put_self _ (by rw [h.has.size]; decide), h.bel.size, Blk.new _ _ _, fun e => ?_⟩⟩
  · obtain ⟨g, h1, h2, h3⟩ := h.h8 e
    exact ⟨g, by rw [kgetD_put _ (by decide)]; exact h1, h2.below hb, h3⟩
  · have := (h.ch.lt _ e).2
    omega
/-- A step of the chain: what it owns grows, or is new; nothing else changes. -/
theorem EI.step {c c' d : Nat} {v' : Value} {w' : World} {u : Value} (h : EI W0 r last info b L c v x8 x11 a w) (hl : look L d = none) (hd : Nat.ble (d + 1) 37 = true) (h25 : d ≠ 25) (h10 : d ≠ 10)
    (hg : w.grownBy w' v.ownBlock) (ho : v'.ownBlock = none ∨ v'.ownBlock = v.ownBlock ∨ v'.ownBlock = some w.heap.size) (hc : chE W0.heap.size r last info b v' (a.put (some d) u) w' c') :
    EI W0 r last info b L c' v' x8 x11 (a.put (some d) u) w' := by
  refine ⟨h.has.keep d _ hd hl, below_grown' h.bel hg (fun j hj => (h.ch.lt j hj).1) h.bel.size, hc, fun e => ?_, fun e => ?_⟩
  · obtain ⟨g, h1, h2, h3⟩ := h.h8 e
    refine ⟨g, by rw [kgetD_put _ h25]; exact h1, h2.of_block (hg.block g h2.blk (fun e => h3 e.symm)), fun e => ?_⟩
    rcases ho with ho | ho | ho
    · rw [ho] at e
      cases e
    · exact h3 (ho ▸ e)
    · rw [ho] at e
      cases e
      exact Nat.lt_irrefl _ h2.blk
  · obtain ⟨g, h1, h2, h3, h4⟩ := h.h11 e
    refine ⟨g, by rw [kgetD_put _ h10]; exact h1, h2, (hg.block g h3.lt (fun e => h4 e.symm)).trans h3, fun e => ?_⟩
    rcases ho with ho | ho | ho
    · rw [ho] at e
      cases e
    · exact h4 (ho ▸ e)
    · rw [ho] at e
      cases e
      exact Nat.lt_irrefl _ h3.lt
end
end Go.Proofs.YtdmhngkedgkndaaDoor
namespace Go.Proofs.YtdmhngkedgkndaaDoor
open Go.RowKit
def baseE (gs : Nat) (iv ov lv : Value) (n i : Int) : List (Nat × Value) := [(3, .pointer (some ⟨gs, 0, none⟩)), (1, iv), (2, .int .i64 n), (7, ov), (8, lv), (9, .int .i64 i)]
def fullE (gs : Nat) (iv ov lv : Value) (n i : Int) (b : Nat) : List (Nat × Value) := (24, .int .u8 (b : Int)) :: (23, .int .i64 i) :: (21, iv) :: (19, lv) :: (17, .slice (some ⟨gs, 0, none⟩) 32 32) :: baseE gs iv ov lv n i
set_option maxHeartbeats 4000000 in
set_option maxRecDepth 100000 in
theorem e5_walk (W0 : World) (cu sq : Nat → Nat) (s last info : List Nat) (b gs : Nat) (iv ov lv : Value) (n i : Int) (hs : SB W0 (.slice (some ⟨gs, 0, none⟩) 32 32) s) (hl : SB W0 lv last) (hi : SB W0 iv info) (R : Ref W0 cu sq)
    (bs : Bytes s) (bl : Bytes last) (bi : Bytes info) (bb : b < 256) (ls : s.length = 32) (ll : last.length ≤ 32) (li : info.length ≤ 1000) {Q : Exit → Act → World → Prop} {r : List Nat} (hr : r = hmac cu sq s (last ++ info ++ [b])) (lr : r.length = 32)
    (hexit : ∀ a' w' g, Has 37 ((10, .pointer (some ⟨g, 0, none⟩)) :: fullE gs iv ov lv n i b) a' → W0.heap.size ≤ g → Below W0.heap.size W0 w' → Blk w' g 28 (Iv .u8 (NI r)) → Q .normal a' w') :
    ∀ (fuel c : Nat) (x8 x11 : Bool) (v : Value) (a : Act) (w : World), c ≤ 5 → (4 ≤ c → x8 = true) → fuel = (5 - c) + (bif x8 then 0 else 1) + (bif x11 then 0 else 1) →
      EI W0 r last info b (fullE gs iv ov lv n i b) c v x8 x11 a w → wpAnyZ Tryd.prog .any reg5 Q (fun _ => True) 12 (fuel + 1) (listE c x8 x11) a w := by
  intro fuel
  induction fuel with
  | zero =>
    intro c x8 x11 v a w hc h48 hf h
    have hc5 : c = 5 := by cases x8 <;> cases x11 <;> simp at hf <;> omega
    subst hc5
    obtain rfl : x8 = true := h48 (by decide)
    obtain rfl : x11 = true := by cases x11 <;> simp at hf ⊢
    obtain ⟨g, h1, h2, h3, _⟩ := h.h11 rfl
    refine wpAnyZ_store_last 12 rfl ready_end rfl 28 _ _ rfl g (Iv .u8 (NI r)) h1 h.ch.2 28 _ h3 (info_N32 _ lr) (by rw [Iv_size, Iv_size, NI_length, lr]; rfl) (Iv_one _ _) (by decide) ?_
    refine wpAnyZ_done (by decide +kernel) ?_ 0
    refine hexit _ _ g ?_ h2 (below_setRow h.bel h2 _) (h3.row _)
    refine ⟨h.has.size, h.has.defers, fun e u he => ?_⟩
    by_cases h10 : 10 = e
    · subst h10
      cases he
      exact h1
    · refine h.has.val e u ?_
      have hb : Nat.beq 10 e = false := by
        cases hq : Nat.beq 10 e with
        | false => rfl
        | true => exact absurd (Nat.eq_of_beq_eq_true hq) h10
      unfold look at he
      rw [hb] at he
      exact he
  | succ fuel ih =>
    intro c x8 x11 v a w hc h48 hf h
    refine ⟨fun h0 => absurd h0 (ready_ne ⟨c, by omega⟩ x8 x11), fun j hj => ?_⟩
    have hin := ready_in ⟨c, by omega⟩ x8 x11 j hj
    simp only at hin
    rcases hin with ⟨rfl, hc5, hx8⟩ | ⟨rfl, rfl⟩ | ⟨rfl, rfl⟩ | ⟨_, rfl, rfl, rfl⟩
    · have hnx := list_next ⟨c, hc5⟩ x8 x11
      simp only at hnx
      have hf' : fuel = (5 - (c + 1)) + (bif x8 then 0 else 1) + (bif x11 then 0 else 1) := by cases x8 <;> cases x11 <;> simp at hf ⊢ <;> omega
      have h48' : 4 ≤ c + 1 → x8 = true := fun h4 => (Nat.lt_or_ge c 4).elim (fun h => hx8 (by omega)) h48
      have cs : c = 0 ∨ c = 1 ∨ c = 2 ∨ c = 3 ∨ c = 4 := by omega
      rcases cs with rfl | rfl | rfl | rfl | rfl
      · have hb : Below w.heap.size w (w.alloc (.cells #[] 5)) := (Below.refl _ _).alloc (Nat.le_refl _) _
        refine opR 1 rfl 18 rfl rfl (fun u w1 => u = .slice (some ⟨w.heap.size, 0, none⟩) 0 0 ∧ w1 = w.alloc (.cells #[] 5)) (fun K hK => wp_build_run _ rfl _ _ (run_buildSlice_none _) (hK _ _ ⟨rfl, rfl⟩)) ?_
        rintro _ _ ⟨rfl, rfl⟩
        refine ⟨fun _ => trivial, ?_⟩
        rw [hnx]
        exact ih 1 x8 x11 (.slice (some ⟨w.heap.size, 0, none⟩) 0 0) _ _ (by decide) h48' hf' (h.step rfl rfl (by decide) (by decide) (grown_of_below hb) (Or.inr (Or.inr rfl)) ⟨getD_put_self _ (by rw [h.has.size]; decide), ow_none _ _ h.bel.size⟩)
      · obtain ⟨v', w', r1, O1, g1, o1⟩ := append_sb W0.heap.size w 22 v _ _ _ h.ch.2 (hl.below h.bel) (by first | omega | (simp; omega)) h.bel.size
        refine opR 3 rfl 20 rfl rfl (fun u w1 => u = v' ∧ w1 = w') (fun K hK => wp_append_run _ _ _ _ rfl _ _ h.ch.1 (h.has.ev 19 rfl) _ _ r1 (hK _ _ ⟨rfl, rfl⟩)) ?_
        rintro z y ⟨rfl, rfl⟩
        refine ⟨fun _ => trivial, ?_⟩
        rw [hnx]
        exact ih 2 x8 x11 z _ _ (by decide) h48' hf' (h.step rfl rfl (by decide) (by decide) g1 (Or.inr o1) ⟨getD_put_self _ (by rw [h.has.size]; decide), by simpa using O1⟩)
      · obtain ⟨v', w', r1, O1, g1, o1⟩ := append_sb W0.heap.size w 22 v _ _ _ h.ch.2 (hi.below h.bel) (by first | omega | (simp; omega)) h.bel.size
        refine opR 5 rfl 22 rfl rfl (fun u w1 => u = v' ∧ w1 = w') (fun K hK => wp_append_run _ _ _ _ rfl _ _ h.ch.1 (h.has.ev 21 rfl) _ _ r1 (hK _ _ ⟨rfl, rfl⟩)) ?_
        rintro z y ⟨rfl, rfl⟩
        refine ⟨fun _ => trivial, ?_⟩
        rw [hnx]
        exact ih 3 x8 x11 z _ _ (by decide) h48' hf' (h.step rfl rfl (by decide) (by decide) g1 (Or.inr o1) ⟨getD_put_self _ (by rw [h.has.size]; decide), O1⟩)
      · obtain rfl : x8 = true := hx8 rfl
        obtain ⟨g, q1, q2, q3⟩ := h.h8 rfl
        obtain ⟨v', w', r1, O1, g1, o1⟩ := append_ba W0.heap.size w 22 v _ [b] h.ch.2 g 0 1 q2 (by first | omega | (simp; omega)) h.bel.size
        refine opR 9 rfl 26 rfl rfl (fun u w1 => u = v' ∧ w1 = w') (fun K hK => wp_append_run _ _ _ _ rfl _ _ h.ch.1 q1 _ _ r1 (hK _ _ ⟨rfl, rfl⟩)) ?_
        rintro z y ⟨rfl, rfl⟩
        refine ⟨fun _ => trivial, ?_⟩
        rw [hnx]
        exact ih 4 true x11 z _ _ (by decide) (fun _ => rfl) hf' (h.step rfl rfl (by decide) (by decide) g1 (Or.inr o1) ⟨getD_put_self _ (by rw [h.has.size]; decide), O1⟩)
      · have CS := rmac_any w cu sq s (last ++ info ++ [b]) bs ((bl.append bi).append (fun y hy => by rw [List.mem_singleton.1 hy]; exact bb)) (.slice (some ⟨gs, 0, none⟩) 32 32) v (hs.below h.bel) h.ch.2.sb (by omega) (by simp; omega) (R.below h.bel)
        rw [← hr] at CS
        refine opR 10 rfl 27 rfl rfl (fun u w' => u = .agg (Iv .u8 (NI r)) ∧ Below w.heap.size w w') (fun K hK => wp_call_v 13 _ _ _ Tryd.func13 (by kernel_rfl) (by kernel_rfl) rfl 27 rfl #[.slice (some ⟨gs, 0, none⟩) 32 32, v] (by simp [h.has.ev 17 rfl, show a.eval (.tmp 26) = v from h.ch.1]) _ (CS.mono fun e w' h => ⟨_, h.1, rfl, h.2⟩) hK) ?_
        rintro _ w' ⟨rfl, b1⟩
        refine ⟨fun _ => trivial, ?_⟩
        rw [hnx]
        exact ih 5 x8 x11 undef _ _ (by decide) h48' hf' (h.step rfl rfl (by decide) (by decide) (grown_of_below b1) (Or.inl rfl) ⟨rfl, getD_put_self _ (by rw [h.has.size]; decide)⟩)
    · refine opR 8 rfl 25 rfl rfl (fun v w' => v = .slice (some ⟨w.heap.size, 0, none⟩) 1 1 ∧ w' = w.alloc (.cells #[.int .u8 (b : Int)] 5)) (fun K hK => by
        have f24 := h.has.at_ 24 rfl
        unfold Oper.wp execOp
        go_simp
        exact hK _ _ ⟨rfl, rfl⟩) ?_
      rintro _ _ ⟨rfl, rfl⟩
      refine ⟨fun _ => trivial, ?_⟩
      rw [list_8 ⟨c, by omega⟩ x11]
      exact ih c true x11 v _ _ hc (fun _ => rfl) (by cases x11 <;> simp at hf ⊢ <;> omega) (h.row rfl)
    · refine opR 11 rfl 10 rfl rfl (fun v w' => v = .pointer (some ⟨w.heap.size, 0, none⟩) ∧ w' = w.alloc (.cells (Iv .u8 (List.replicate 32 0)) 28)) (fun K hK => by
        unfold Oper.wp execOp
        go_simp
        exact hK _ _ ⟨rfl, rfl⟩) ?_
      rintro _ _ ⟨rfl, rfl⟩
      refine ⟨fun _ => trivial, ?_⟩
      rw [list_11 ⟨c, by omega⟩ x8]
      exact ih c x8 true v _ _ hc h48 (by cases x8 <;> simp at hf ⊢ <;> omega) (h.cell rfl)
    · simp at hf
end Go.Proofs.YtdmhngkedgkndaaDoor
