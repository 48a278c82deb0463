/- The reference's Expand: its drawn region, by what stands behind each choice. -/
import Derived.Test.YtjkocockbglenaaDoorQn
import Derived.Test.YtjkocockbglenaaDoorMg
/- The reference's Expand: its drawn region, walked in any order. -/
/- The reference's Expand: its contract. -/
namespace Go.Proofs.YtjkocockbglenaaDoor
open Go.RowKit

/-- The regions of a body, by their numbers. -/
def regionsOf : Code → List (Nat × Array Oper)
  | .region i ops _ => [(i, ops)]
  | .loop c => regionsOf c
  | .seq a b => regionsOf a ++ regionsOf b
  | .block _ c => regionsOf c
  | .scope c => regionsOf c
  | .cond _ a b => regionsOf a ++ regionsOf b
  | _ => []
noncomputable def reg5 : Array Oper := (((Tryd.f13.body.map regionsOf).getD []).find? (·.1 == 5)).elim #[] (·.2)
/-- What is listed: the chain's place, the number's row, the key's cell. -/
def listE (c : Nat) (x8 x11 : Bool) : Array Bool := #[true, Nat.ble 1 c, true, Nat.ble 2 c, true, Nat.ble 3 c, true, true, x8, Nat.ble 4 c, Nat.ble 5 c, x11, false]
def nextE (c : Nat) : Nat := [1, 3, 5, 9, 10].getD c 0
theorem ready_in : ∀ c : Fin 6, ∀ x8 x11 : Bool, ∀ i ∈ Region.ready .any reg5 (listE c.val x8 x11), (i = nextE c.val ∧ c.val < 5 ∧ (c.val = 3 → x8 = true)) ∨ (i = 8 ∧ x8 = false) ∨ (i = 11 ∧ x11 = false) ∨ (i = 12 ∧ c.val = 5 ∧ x8 = true ∧ x11 = true) := by decide +kernel
theorem ready_ne : ∀ c : Fin 6, ∀ x8 x11 : Bool, Region.ready .any reg5 (listE c.val x8 x11) ≠ [] := by decide +kernel
theorem ready_end : Region.ready .any reg5 (listE 5 true true) = [12] := by decide +kernel
theorem list_next : ∀ c : Fin 5, ∀ x8 x11 : Bool, (listE c.val x8 x11).setIfInBounds (nextE c.val) true = listE (c.val + 1) x8 x11 := by decide +kernel
theorem list_8 : ∀ c : Fin 6, ∀ x11 : Bool, (listE c.val false x11).setIfInBounds 8 true = listE c.val true x11 := by decide +kernel
theorem list_11 : ∀ c : Fin 6, ∀ x8 : Bool, (listE c.val x8 false).setIfInBounds 11 true = listE c.val x8 true := by decide +kernel
theorem list_0 : (((((Array.replicate 13 false).setIfInBounds 0 true).setIfInBounds 2 true).setIfInBounds 4 true).setIfInBounds 6 true).setIfInBounds 7 true = listE 0 false false := by decide +kernel

section
variable {P : Program} {ops : Array Oper} {Q : Exit → Act → World → Prop} {K : Act → World → Prop} {a : Act} {w : World}
theorem opR (i : Nat) {oi : Oper} (hi : ops.toList[i]? = some oi) (d : Nat) (hd : oi.dst = some d) (hgd : oi.guard = none) (R : Value → World → Prop)
    (hw : ∀ K' : Act → World → Prop, (∀ v w', R v w' → K' (a.put (some d) v) w') → oi.wp P a w K' Q) (k : ∀ v w', R v w' → K (a.put (some d) v) w') : wpOp P ops Q i K a w := by
  unfold wpOp
  rw [← Array.getElem?_toList, hi]
  have hwd : Region.wanted oi (yielded ops a.tmps) = true := by simp [Region.wanted, hgd]
  simp only [hwd, if_true]
  left
  exact hw _ k
end
theorem getD_put {a : Act} {d e : Nat} (v : Value) (h : d ≠ e) : (a.put (some d) v).tmps.getD e undef = a.tmps.getD e undef := by
  simp [Act.put, Array.getD_eq_getD_getElem?, Array.getElem?_setIfInBounds, h]
theorem getD_put_self {a : Act} {d : Nat} (v : Value) (h : d < a.tmps.size) : (a.put (some d) v).tmps.getD d undef = v := by
  simp [Act.put, h]
theorem Has.keep {N : Nat} {L : List (Nat × Value)} {a : Act} (h : Has N L a) (d : Nat) (v : Value) (hd : Nat.ble (d + 1) N = true) (hl : look L d = none) : Has N L (a.put (some d) v) := by
  refine ⟨by simp [Act.put, h.size], h.defers, fun e u he => ?_⟩
  have hne : d ≠ e := fun e' => by rw [e', he] at hl; cases hl
  rw [getD_put v hne]
  exact h.val e u he

def chE (B : Nat) (r : List Nat) (last info : List Nat) (b : Nat) (v : Value) (a : Act) (w : World) : Nat → Prop
  | 0 => v.ownBlock = none
  | 1 => a.tmps.getD 18 undef = v ∧ OwL B w v []
  | 2 => a.tmps.getD 20 undef = v ∧ OwL B w v last
  | 3 => a.tmps.getD 22 undef = v ∧ OwL B w v (last ++ info)
  | 4 => a.tmps.getD 26 undef = v ∧ OwL B w v (last ++ info ++ [b])
  | _ => v.ownBlock = none ∧ a.tmps.getD 27 undef = .agg (Iv .u8 (NI r))
/-- What stands in each place: c of the chain, with the number's row (x8) and the key's cell (x11), or without. -/
structure EI (W0 : World) (r last info : List Nat) (b : Nat) (L : List (Nat × Value)) (c : Nat) (v : Value) (x8 x11 : Bool) (a : Act) (w : World) : Prop where
  has : Has 37 L a
  bel : Below W0.heap.size W0 w
  ch : chE W0.heap.size r last info b v a w c
  h8 : x8 = true → ∃ g, a.tmps.getD 25 undef = .slice (some ⟨g, 0, none⟩) 1 1 ∧ BA w g 0 [b] ∧ v.ownBlock ≠ some g
  h11 : x11 = true → ∃ g, a.tmps.getD 10 undef = .pointer (some ⟨g, 0, none⟩) ∧ W0.heap.size ≤ g ∧ Blk w g 25 (Iv .u8 (List.replicate 32 0)) ∧ v.ownBlock ≠ some g
section
variable {W0 : World} {r last info : List Nat} {b : Nat} {L : List (Nat × Value)} {v : Value} {x8 x11 : Bool} {a : Act} {w : World}
theorem chE.own {B : Nat} : ∀ {c : Nat}, chE B r last info b v a w c → v.ownBlock = none ∨ ∃ l, OwL B w v l
  | 0, h => Or.inl h
  | 1, h => Or.inr ⟨_, h.2⟩
  | 2, h => Or.inr ⟨_, h.2⟩
  | 3, h => Or.inr ⟨_, h.2⟩
  | 4, h => Or.inr ⟨_, h.2⟩
  | _ + 5, h => Or.inl h.1
theorem chE.lt {B c : Nat} (h : chE B r last info b v a w c) (g : Nat) (hg : v.ownBlock = some g) : B ≤ g ∧ g < w.heap.size := by
  rcases h.own with h | ⟨l, h⟩
  · rw [h] at hg
    cases hg
  · exact h.lt g hg
/-- A slot that the chain doesn't read is written, and the memory grows. -/
theorem chE.put {B : Nat} {w' : World} (d : Nat) (u : Value) (hd : d = 25 ∨ d = 10) (hb : Below w.heap.size w w') : ∀ {c : Nat}, chE B r last info b v a w c → chE B r last info b v (a.put (some d) u) w' c
  | 0, h => h
  | 1, h => ⟨by rw [getD_put u (by omega)]; exact h.1, h.2.below hb⟩
  | 2, h => ⟨by rw [getD_put u (by omega)]; exact h.1, h.2.below hb⟩
  | 3, h => ⟨by rw [getD_put u (by omega)]; exact h.1, h.2.below hb⟩
  | 4, h => ⟨by rw [getD_put u (by omega)]; exact h.1, h.2.below hb⟩
  | _ + 5, h => ⟨h.1, by rw [getD_put u (by omega)]; exact h.2⟩
/-- The number's row. -/
theorem EI.row {c : Nat} (h : EI W0 r last info b L c v false x11 a w) (hl : look L 25 = none) :
    EI W0 r last info b L c v true x11 (a.put (some 25) (.slice (some ⟨w.heap.size, 0, none⟩) 1 1)) (w.alloc (.cells #[.int .u8 (b : Int)] 5)) := by
  have hb : Below w.heap.size w (w.alloc (.cells #[.int .u8 (b : Int)] 5)) := (Below.refl _ _).alloc (Nat.le_refl _) _
  refine ⟨h.has.keep 25 _ rfl hl, h.bel.trans (hb.mono h.bel.size), h.ch.put 25 _ (Or.inl rfl) hb, fun _ => ⟨w.heap.size, getD_put_self _ (by rw [h.has.size]; decide), byte_row w b, fun e => ?_⟩, fun e => ?_⟩
  · have := (h.ch.lt _ e).2
    omega
  · obtain ⟨g, h1, h2, h3, h4⟩ := h.h11 e
    exact ⟨g, by rw [getD_put _ (by decide)]; exact h1, h2, h3.below' hb, h4⟩
/-- The key's cell. -/
theorem EI.cell {c : Nat} (h : EI W0 r last info b L c v x8 false a w) (hl : look L 10 = none) :
    EI W0 r last info b L c v x8 true (a.put (some 10) (.pointer (some ⟨w.heap.size, 0, none⟩))) (w.alloc (.cells (Iv .u8 (List.replicate 32 0)) 25)) := by
  have hb : Below w.heap.size w (w.alloc (.cells (Iv .u8 (List.replicate 32 0)) 25)) := (Below.refl _ _).alloc (Nat.le_refl _) _
  refine ⟨h.has.keep 10 _ rfl hl, h.bel.trans (hb.mono h.bel.size), h.ch.put 10 _ (Or.inr rfl) hb, fun e => ?_, fun _ => ⟨w.heap.size, getD_put_self _ (by rw [h.has.size]; decide), h.bel.size, Blk.new _ _ _, fun e => ?_⟩⟩
  · obtain ⟨g, h1, h2, h3⟩ := h.h8 e
    exact ⟨g, by rw [getD_put _ (by decide)]; exact h1, h2.below hb, h3⟩
  · have := (h.ch.lt _ e).2
    omega
/-- A step of the chain: what it owns grows, or is new; nothing else changes. -/
theorem EI.step {c c' d : Nat} {v' : Value} {w' : World} {u : Value} (h : EI W0 r last info b L c v x8 x11 a w) (hl : look L d = none) (hd : Nat.ble (d + 1) 37 = true) (h25 : d ≠ 25) (h10 : d ≠ 10)
    (hg : w.grownBy w' v.ownBlock) (ho : v'.ownBlock = none ∨ v'.ownBlock = v.ownBlock ∨ v'.ownBlock = some w.heap.size) (hc : chE W0.heap.size r last info b v' (a.put (some d) u) w' c') :
    EI W0 r last info b L c' v' x8 x11 (a.put (some d) u) w' := by
  refine ⟨h.has.keep d _ hd hl, below_grown' h.bel hg (fun j hj => (h.ch.lt j hj).1) h.bel.size, hc, fun e => ?_, fun e => ?_⟩
  · obtain ⟨g, h1, h2, h3⟩ := h.h8 e
    refine ⟨g, by rw [getD_put _ h25]; exact h1, h2.of_block (hg.block g h2.blk (fun e => h3 e.symm)), fun e => ?_⟩
    rcases ho with ho | ho | ho
    · rw [ho] at e
      cases e
    · exact h3 (ho ▸ e)
    · rw [ho] at e
      cases e
      exact Nat.lt_irrefl _ h2.blk
  · obtain ⟨g, h1, h2, h3, h4⟩ := h.h11 e
    refine ⟨g, by rw [getD_put _ h10]; exact h1, h2, (hg.block g h3.lt (fun e => h4 e.symm)).trans h3, fun e => ?_⟩
    rcases ho with ho | ho | ho
    · rw [ho] at e
      cases e
    · exact h4 (ho ▸ e)
    · rw [ho] at e
      cases e
      exact Nat.lt_irrefl _ h3.lt
end
end Go.Proofs.YtjkocockbglenaaDoor
namespace Go.Proofs.YtjkocockbglenaaDoor
open Go.RowKit

def baseE (gs : Nat) (iv ov lv : Value) (n i : Int) : List (Nat × Value) := [(3, .pointer (some ⟨gs, 0, none⟩)), (1, iv), (2, .int .i64 n), (7, ov), (8, lv), (9, .int .i64 i)]
def fullE (gs : Nat) (iv ov lv : Value) (n i : Int) (b : Nat) : List (Nat × Value) := (24, .int .u8 (b : Int)) :: (23, .int .i64 i) :: (21, iv) :: (19, lv) :: (17, .slice (some ⟨gs, 0, none⟩) 32 32) :: baseE gs iv ov lv n i

set_option maxHeartbeats 4000000 in
set_option maxRecDepth 100000 in
theorem e5_walk (W0 : World) (cu sq : Nat → Nat) (s last info : List Nat) (b gs : Nat) (iv ov lv : Value) (n i : Int) (hs : SB W0 (.slice (some ⟨gs, 0, none⟩) 32 32) s) (hl : SB W0 lv last) (hi : SB W0 iv info) (R : Ref W0 cu sq)
    (bs : Bytes s) (bl : Bytes last) (bi : Bytes info) (bb : b < 256) (ls : s.length = 32) (ll : last.length ≤ 32) (li : info.length ≤ 1000) {Q : Exit → Act → World → Prop} {r : List Nat} (hr : r = hmac cu sq s (last ++ info ++ [b])) (lr : r.length = 32)
    (hexit : ∀ a' w' g, Has 37 ((10, .pointer (some ⟨g, 0, none⟩)) :: fullE gs iv ov lv n i b) a' → W0.heap.size ≤ g → Below W0.heap.size W0 w' → Blk w' g 25 (Iv .u8 (NI r)) → Q .normal a' w') :
    ∀ (fuel c : Nat) (x8 x11 : Bool) (v : Value) (a : Act) (w : World), c ≤ 5 → (4 ≤ c → x8 = true) → fuel = (5 - c) + (bif x8 then 0 else 1) + (bif x11 then 0 else 1) →
      EI W0 r last info b (fullE gs iv ov lv n i b) c v x8 x11 a w → wpAnyZ Tryd.prog .any reg5 Q (fun _ => True) 12 (fuel + 1) (listE c x8 x11) a w := by
  intro fuel
  induction fuel with
  | zero =>
    intro c x8 x11 v a w hc h48 hf h
    have hc5 : c = 5 := by cases x8 <;> cases x11 <;> simp at hf <;> omega
    subst hc5
    obtain rfl : x8 = true := h48 (by decide)
    obtain rfl : x11 = true := by cases x11 <;> simp at hf ⊢
    obtain ⟨g, h1, h2, h3, _⟩ := h.h11 rfl
    refine wpAnyZ_store_last 12 rfl ready_end rfl 25 _ _ rfl g (Iv .u8 (NI r)) h1 h.ch.2 25 _ h3 (info_N32 _ lr) (by rw [Iv_size, Iv_size, NI_length, lr]; rfl) (Iv_one _ _) (by decide) ?_
    refine wpAnyZ_done (by decide +kernel) ?_ 0
    refine hexit _ _ g ?_ h2 (below_setRow h.bel h2 _) (h3.row _)
    refine ⟨h.has.size, h.has.defers, fun e u he => ?_⟩
    by_cases h10 : 10 = e
    · subst h10
      cases he
      exact h1
    · refine h.has.val e u ?_
      have hb : Nat.beq 10 e = false := by
        cases hq : Nat.beq 10 e with
        | false => rfl
        | true => exact absurd (Nat.eq_of_beq_eq_true hq) h10
      unfold look at he
      rw [hb] at he
      exact he
  | succ fuel ih =>
    intro c x8 x11 v a w hc h48 hf h
    refine ⟨fun h0 => absurd h0 (ready_ne ⟨c, by omega⟩ x8 x11), fun j hj => ?_⟩
    have hin := ready_in ⟨c, by omega⟩ x8 x11 j hj
    simp only at hin
    rcases hin with ⟨rfl, hc5, hx8⟩ | ⟨rfl, rfl⟩ | ⟨rfl, rfl⟩ | ⟨_, rfl, rfl, rfl⟩
    · have hnx := list_next ⟨c, hc5⟩ x8 x11
      simp only at hnx
      have hf' : fuel = (5 - (c + 1)) + (bif x8 then 0 else 1) + (bif x11 then 0 else 1) := by cases x8 <;> cases x11 <;> simp at hf ⊢ <;> omega
      have h48' : 4 ≤ c + 1 → x8 = true := fun h4 => (Nat.lt_or_ge c 4).elim (fun h => hx8 (by omega)) h48
      have cs : c = 0 ∨ c = 1 ∨ c = 2 ∨ c = 3 ∨ c = 4 := by omega
      rcases cs with rfl | rfl | rfl | rfl | rfl
      · have hb : Below w.heap.size w (w.alloc (.cells #[] 5)) := (Below.refl _ _).alloc (Nat.le_refl _) _
        refine opR 1 rfl 18 rfl rfl (fun u w1 => u = .slice (some ⟨w.heap.size, 0, none⟩) 0 0 ∧ w1 = w.alloc (.cells #[] 5)) (fun K hK => wp_build_run _ rfl _ _ (run_buildSlice_none _) (hK _ _ ⟨rfl, rfl⟩)) ?_
        rintro _ _ ⟨rfl, rfl⟩
        refine ⟨fun _ => trivial, ?_⟩
        rw [hnx]
        exact ih 1 x8 x11 (.slice (some ⟨w.heap.size, 0, none⟩) 0 0) _ _ (by decide) h48' hf' (h.step rfl rfl (by decide) (by decide) (grown_of_below hb) (Or.inr (Or.inr rfl)) ⟨getD_put_self _ (by rw [h.has.size]; decide), ow_none _ _ h.bel.size⟩)
      · obtain ⟨v', w', r1, O1, g1, o1⟩ := append_sb W0.heap.size w 22 v _ _ _ h.ch.2 (hl.below h.bel) (by first | omega | (simp; omega)) h.bel.size
        refine opR 3 rfl 20 rfl rfl (fun u w1 => u = v' ∧ w1 = w') (fun K hK => wp_append_run _ _ _ _ rfl _ _ h.ch.1 (h.has.ev 19 rfl) _ _ r1 (hK _ _ ⟨rfl, rfl⟩)) ?_
        rintro z y ⟨rfl, rfl⟩
        refine ⟨fun _ => trivial, ?_⟩
        rw [hnx]
        exact ih 2 x8 x11 z _ _ (by decide) h48' hf' (h.step rfl rfl (by decide) (by decide) g1 (Or.inr o1) ⟨getD_put_self _ (by rw [h.has.size]; decide), by simpa using O1⟩)
      · obtain ⟨v', w', r1, O1, g1, o1⟩ := append_sb W0.heap.size w 22 v _ _ _ h.ch.2 (hi.below h.bel) (by first | omega | (simp; omega)) h.bel.size
        refine opR 5 rfl 22 rfl rfl (fun u w1 => u = v' ∧ w1 = w') (fun K hK => wp_append_run _ _ _ _ rfl _ _ h.ch.1 (h.has.ev 21 rfl) _ _ r1 (hK _ _ ⟨rfl, rfl⟩)) ?_
        rintro z y ⟨rfl, rfl⟩
        refine ⟨fun _ => trivial, ?_⟩
        rw [hnx]
        exact ih 3 x8 x11 z _ _ (by decide) h48' hf' (h.step rfl rfl (by decide) (by decide) g1 (Or.inr o1) ⟨getD_put_self _ (by rw [h.has.size]; decide), O1⟩)
      · obtain rfl : x8 = true := hx8 rfl
        obtain ⟨g, q1, q2, q3⟩ := h.h8 rfl
        obtain ⟨v', w', r1, O1, g1, o1⟩ := append_ba W0.heap.size w 22 v _ [b] h.ch.2 g 0 1 q2 (by first | omega | (simp; omega)) h.bel.size
        refine opR 9 rfl 26 rfl rfl (fun u w1 => u = v' ∧ w1 = w') (fun K hK => wp_append_run _ _ _ _ rfl _ _ h.ch.1 q1 _ _ r1 (hK _ _ ⟨rfl, rfl⟩)) ?_
        rintro z y ⟨rfl, rfl⟩
        refine ⟨fun _ => trivial, ?_⟩
        rw [hnx]
        exact ih 4 true x11 z _ _ (by decide) (fun _ => rfl) hf' (h.step rfl rfl (by decide) (by decide) g1 (Or.inr o1) ⟨getD_put_self _ (by rw [h.has.size]; decide), O1⟩)
      · have CS := rmac_any w cu sq s (last ++ info ++ [b]) bs ((bl.append bi).append (fun y hy => by rw [List.mem_singleton.1 hy]; exact bb)) (.slice (some ⟨gs, 0, none⟩) 32 32) v (hs.below h.bel) h.ch.2.sb (by omega) (by simp; omega) (R.below h.bel)
        rw [← hr] at CS
        refine opR 10 rfl 27 rfl rfl (fun u w' => u = .agg (Iv .u8 (NI r)) ∧ Below w.heap.size w w') (fun K hK => wp_call_v 9 _ _ _ Tryd.func9 (by kernel_rfl) (by kernel_rfl) rfl 27 rfl #[.slice (some ⟨gs, 0, none⟩) 32 32, v] (by simp [h.has.ev 17 rfl, show a.eval (.tmp 26) = v from h.ch.1]) _ (CS.mono fun e w' h => ⟨_, h.1, rfl, h.2⟩) hK) ?_
        rintro _ w' ⟨rfl, b1⟩
        refine ⟨fun _ => trivial, ?_⟩
        rw [hnx]
        exact ih 5 x8 x11 undef _ _ (by decide) h48' hf' (h.step rfl rfl (by decide) (by decide) (grown_of_below b1) (Or.inl rfl) ⟨rfl, getD_put_self _ (by rw [h.has.size]; decide)⟩)
    · refine opR 8 rfl 25 rfl rfl (fun v w' => v = .slice (some ⟨w.heap.size, 0, none⟩) 1 1 ∧ w' = w.alloc (.cells #[.int .u8 (b : Int)] 5)) (fun K hK => by
        have f24 := h.has.at_ 24 rfl
        unfold Oper.wp execOp
        go_simp
        exact hK _ _ ⟨rfl, rfl⟩) ?_
      rintro _ _ ⟨rfl, rfl⟩
      refine ⟨fun _ => trivial, ?_⟩
      rw [list_8 ⟨c, by omega⟩ x11]
      exact ih c true x11 v _ _ hc (fun _ => rfl) (by cases x11 <;> simp at hf ⊢ <;> omega) (h.row rfl)
    · refine opR 11 rfl 10 rfl rfl (fun v w' => v = .pointer (some ⟨w.heap.size, 0, none⟩) ∧ w' = w.alloc (.cells (Iv .u8 (List.replicate 32 0)) 25)) (fun K hK => by
        unfold Oper.wp execOp
        go_simp
        exact hK _ _ ⟨rfl, rfl⟩) ?_
      rintro _ _ ⟨rfl, rfl⟩
      refine ⟨fun _ => trivial, ?_⟩
      rw [list_11 ⟨c, by omega⟩ x8]
      exact ih c x8 true v _ _ hc h48 (by cases x8 <;> simp at hf ⊢ <;> omega) (h.cell rfl)
    · simp at hf
end Go.Proofs.YtjkocockbglenaaDoor
namespace Go.Proofs.YtjkocockbglenaaDoor
open Go.RowKit

noncomputable def expLoop : Code := ((Tryd.f13.body.map loopsOf).getD []).getD 0 .skip
set_option maxHeartbeats 4000000 in
set_option maxRecDepth 100000 in
theorem expRound_any (w wr : World) (cu sq : Nat → Nat) (s info : List Nat) (iv vo vl : Value) (n k : Nat) (F : ExW cu sq s info w wr vo vl k) (hi : SB w iv info) (R : Ref w cu sq) (bs : Bytes s) (bi : Bytes info) (ls : s.length = 32) (li : info.length ≤ 1000) (hk : k < 200) {Q : Exit → Act → World → Prop}
    (a : Act) (h : Has 37 (baseE w.heap.size iv vo vl (n : Int) ((k : Int) + 1)) a) {id : Nat}
    (hexit : ∀ a' w' g, Has 37 ((10, .pointer (some ⟨g, 0, none⟩)) :: baseE w.heap.size iv vo vl (n : Int) ((k : Int) + 1)) a' → wr.heap.size ≤ g → Below wr.heap.size wr w' → Blk w' g 25 (Iv .u8 (NI (Ti cu sq s info (k + 1)))) → Q .normal a' w')
    (hp : ∀ c (d : Option Tmp) v a w, Q (.panic c) (a.put d v) w → Q (.panic c) a w) : (Code.region id reg5 true).wp Tryd.prog Q a wr := by
  have bd : Below wr.heap.size wr wr.drew := below_drew (Below.refl _ _)
  have Fd := F.below bd
  have hid := (hi.below F.b).below bd
  have Rd := (R.below F.b).below bd
  have hs : SB wr.drew (.slice (some ⟨w.heap.size, 0, none⟩) 32 32) s := SB.of_ba' (c := 32) (n := 32) (BA.of_blk Fd.sec) ls.symm (by rw [ls]; exact Nat.le_refl _)
  have lT := Ti_length cu sq s info k
  have lTk := Ti_le cu sq s info k
  have eT : Ti cu sq s info (k + 1) = hmac cu sq s (Ti cu sq s info k ++ info ++ [(k + 1) % 256]) := by
    show hmac cu sq s [Ti cu sq s info k, info, [(k + 1) % 256]].flatten = _
    simp
  have eb : ((k : Int) + 1) = (((k + 1) % 256 : Nat) : Int) := by omega
  have bl := Ti_bytes cu sq s info k
  have last := Fd.last
  generalize hb : (k + 1) % 256 = b at eT eb
  have bb : b < 256 := by omega
  generalize Ti cu sq s info (k + 1) = r at eT lT hexit
  generalize Ti cu sq s info k = T at bl last lTk eT
  have hS : True := trivial
  refine wp_region_Z (S := fun _ => True) 12 rfl ?_
  show wpAnyZ Tryd.prog .any reg5 Q (fun _ => True) 12 13 (Array.replicate 13 false) a wr.drew
  refine zanyH 0 h 17 (Value.slice (some ⟨w.heap.size, 0, none⟩) 32 32) rfl rfl rfl (by kernel_rfl) (by kernel_rfl) (by kernel_rfl) (by kernel_rfl) (by kernel_rfl) (fun c a w hq => hp c _ _ a w hq) (Or.inl ⟨rfl, fun w' hw' => by
      have e3 : a.eval (.tmp 3) = _ := h.ev 3 rfl
      simp only [execOp, e3]
      go_simp⟩) hS ?_
  clear h
  intro a h
  refine zanyM 2 h 19 8 rfl rfl rfl rfl rfl rfl (by kernel_rfl) (by kernel_rfl) (by kernel_rfl) (by kernel_rfl) (by kernel_rfl) (fun c a w hq => hp c _ _ a w hq) hS ?_
  clear h
  intro a h
  refine zanyM 4 h 21 1 rfl rfl rfl rfl rfl rfl (by kernel_rfl) (by kernel_rfl) (by kernel_rfl) (by kernel_rfl) (by kernel_rfl) (fun c a w hq => hp c _ _ a w hq) hS ?_
  clear h
  intro a h
  refine zanyM 6 h 23 9 rfl rfl rfl rfl rfl rfl (by kernel_rfl) (by kernel_rfl) (by kernel_rfl) (by kernel_rfl) (by kernel_rfl) (fun c a w hq => hp c _ _ a w hq) hS ?_
  clear h
  intro a h
  refine zanyH 7 h 24 (Value.int .u8 ((b : Nat) : Int)) rfl rfl rfl (by kernel_rfl) (by kernel_rfl) (by kernel_rfl) (by kernel_rfl) (by kernel_rfl) (fun c a w hq => hp c _ _ a w hq) (Or.inl ⟨rfl, fun w' hw' => by
      have e23 : a.eval (.tmp 23) = _ := h.ev 23 rfl
      have ew : IntKind.u8.wrap ((b : Nat) : Int) = ((b : Nat) : Int) := by rw [IntKind.wrap_u8]; omega
      simp only [execOp, e23]
      go_simp⟩) hS ?_
  clear h
  intro a h
  rw [list_0]
  refine e5_walk wr.drew cu sq s T info b w.heap.size iv vo vl (n : Int) ((k : Int) + 1) hs last hid Rd bs bl bi bb ls lTk li eT lT (fun a' w' g h1 h2 h3 h4 => hexit a' w' g (h1.trim _ ?_) h2 (bd.trans h3) h4) 7 0 false false undef a wr.drew (by decide) (fun h => by omega) rfl ⟨h, Below.refl _ _, rfl, (fun e => by cases e), fun e => by cases e⟩
  intro p hp
  simp only [fullE, baseE, List.mem_cons, List.not_mem_nil, or_false] at hp
  rcases hp with rfl | rfl | rfl | rfl | rfl | rfl | rfl <;> rfl

set_option maxHeartbeats 4000000 in
set_option maxRecDepth 100000 in
theorem rexp_any (w : World) (cu sq : Nat → Nat) (s info : List Nat) (bs : Bytes s) (bi : Bytes info) (ls : s.length = 32) (li : info.length ≤ 1000) (iv : Value) (hi : SB w iv info) (n : Nat) (hn : n ≤ 200) (R : Ref w cu sq) :
    Calls Tryd.prog 13 #[.agg (Iv .u8 (NI s)), iv, .int .i64 (n : Int)] w fun e w' => ∃ v, e = .returned v ∧ SB w' v (expandL cu sq s info n) ∧ Below w.heap.size w w' := by
  refine calls_enter3 37 Tryd.func13 rfl Tryd.ntmps13 (by decide) fun a h => ?_
  repeat refine wp_seq ?_
  refine wp_region_seq ?_
  refine seqW h 3 (.pointer (some ⟨w.heap.size, 0, none⟩)) (w.alloc (.cells (Iv .u8 (NI s)) 25)) rfl rfl rfl (fun K hK => by
    have f0 := h.at_ 0 rfl
    unfold Oper.wp execOp
    go_simp
    exact hK) ?_
  clear h
  intro a h
  refine seqC h 6 rfl rfl rfl rfl ?_
  clear h
  intro a h
  refine wpSeq_nil ?_
  show Code.wp _ _ _ _ _
  have F0 : ExW cu sq s info w (w.alloc (.cells (Iv .u8 (NI s)) 25)) (.slice none 0 0) (.slice none 0 0) 0 :=
    ⟨Blk.new _ _ _, OwL.nil _ _, SB.nil _ _ _, (Below.refl _ _).alloc (Nat.le_refl _) _⟩
  generalize World.alloc w _ = W at F0 ⊢
  repeat refine wp_seq ?_
  refine wp_region_seq ?_
  refine seqC h 7 rfl rfl rfl rfl ?_
  clear h
  intro a h
  refine seqC h 8 rfl rfl rfl rfl ?_
  clear h
  intro a h
  refine wpSeq_nil ?_
  show Code.wp _ _ _ _ _
  repeat refine wp_seq ?_
  refine wp_region_seq ?_
  refine seqC h 9 rfl rfl rfl rfl ?_
  clear h
  intro a h
  refine wpSeq_nil ?_
  show Code.wp _ _ _ _ _
  refine wp_block ?_
  refine wp_loop (fun a' w' => ∃ (k : Nat) (vo vl : Value), k ≤ (n + 31) / 32 ∧ Has 37 (baseE w.heap.size iv vo vl (n : Int) ((k : Int) + 1)) a' ∧ ExW cu sq s info w w' vo vl k) (fun a' _ => 300 - (intOf (a'.tmps.getD 9 undef)).toNat) ?_ ?_
  · refine ⟨0, _, _, Nat.zero_le _, h.trim _ ?_, F0⟩
    intro p hp
    simp only [fullE, baseE, List.mem_cons, List.not_mem_nil, or_false] at hp
    rcases hp with rfl | rfl | rfl | rfl | rfl | rfl <;> rfl
  clear h a F0
  rintro a wr ⟨k, vo, vl, hk, h, F⟩
  have hm : a.tmps.getD 9 undef = .int .i64 ((k : Int) + 1) := h.val 9 _ rfl
  generalize a.tmps.getD 9 undef = x at hm ⊢
  subst hm
  have lo := okm_length cu sq s info k
  refine wp_seq (wp_seq ?_)
  refine wp_region_seq ?_
  obtain ⟨pb, cb, eb, hcb, _⟩ := F.own.sb
  rw [lo] at eb hcb
  subst eb
  by_cases hlt : 32 * k < n
  · have j2 : (((32 * k : Nat) : Int)) < (n : Int) := by omega
    clear lo
    refine seqM h 11 7 rfl rfl rfl rfl rfl ?_
    clear h
    intro a h
    refine seqH h 12 (Value.int .i64 ((32 * k : Nat) : Int)) rfl rfl (Or.inl ⟨rfl, fun w' hw' => by
        subst hw'
        have e11 : a.eval (.tmp 11) = _ := h.ev 11 rfl
        have f11 := h.at_ 11 rfl
        simp only [execOp, e11]
        go_simp⟩) ?_
    clear h
    intro a h
    refine seqM h 13 2 rfl rfl rfl rfl rfl ?_
    clear h
    intro a h
    refine seqH h 14 (Value.bool true) rfl rfl (Or.inl ⟨rfl, fun w' hw' => by
        subst hw'
        have e12 : a.eval (.tmp 12) = _ := h.ev 12 rfl
        have e13 : a.eval (.tmp 13) = _ := h.ev 13 rfl
        have j3 : 32 * (k : Int) < (n : Int) := by omega
        simp only [execOp, e12, e13]
        go_simp⟩) ?_
    clear h
    intro a h
    refine wpSeq_nil ?_
    show Code.wp _ _ _ _ _
    refine wp_cond (t := true) (h.ev 14 rfl) ?_
    refine wp_skip ?_
    show Code.wp _ _ _ _ _
    refine wp_seq (wp_block (wp_seq ?_))
    refine expRound_any w wr cu sq s info iv _ vl n k F hi R bs bi ls li (by omega) a (h.trim _ ?_) ?_ ?_
    · intro p hp
      simp only [fullE, baseE, List.mem_cons, List.not_mem_nil, or_false] at hp
      rcases hp with rfl | rfl | rfl | rfl | rfl | rfl <;> rfl
    · clear h a
      intro a w1 g h hg b1 A1
      show Code.wp _ _ _ _ _
      have F1 := F.below b1
      have ow1 := F.own.lt
      have lT := Ti_length cu sq s info k
      have lo := okm_length cu sq s info k
      have b2 : Below w1.heap.size w1 (w1.alloc (.cells #[] 5)) := (Below.refl _ _).alloc (Nat.le_refl _) _
      obtain ⟨v3, w3, r3, O3, g3, _⟩ := append_ba w1.heap.size _ 22 _ [] (Ti cu sq s info (k + 1)) (ow_none w1.heap.size w1 (Nat.le_refl _)) g 0 32 (BA.of_blk (A1.below' b2)) (by rw [lT]; decide) (by simp)
      rw [lT] at r3
      rw [List.nil_append] at O3
      have b3 : Below w1.heap.size w1 w3 := below_grown' b2 g3 (fun j hj => (by cases hj; exact Nat.le_refl _)) (by simp)
      have F3 := F1.below b3
      have sz1 := b1.size
      have szw := F.b.size
      repeat refine wp_seq ?_
      refine wp_region_seq ?_
      refine seqW h 28 (.slice (some ⟨w1.heap.size, 0, none⟩) 0 0) (w1.alloc (.cells #[] 5)) rfl rfl rfl (fun K hK => wp_build_run _ rfl _ _ (run_buildSlice_none _) hK) ?_
      clear h
      intro a h
      refine seqH h 29 (Value.slice (some ⟨g, 0, none⟩) 32 32) rfl rfl (Or.inl ⟨rfl, fun w' hw' => by
          subst hw'
          have e10 : a.eval (.tmp 10) = _ := h.ev 10 rfl
          simp only [execOp, e10]
          go_simp⟩) ?_
      clear h
      intro a h
      refine seqW h 30 v3 w3 rfl rfl rfl (fun K hK => wp_append_run _ _ _ _ rfl _ _ (h.ev 28 rfl) (h.ev 29 rfl) _ _ r3 hK) ?_
      clear h
      intro a h
      refine seqA h 8 30 rfl rfl rfl rfl rfl ?_
      clear h
      intro a h
      refine wpSeq_nil ?_
      show Code.wp _ _ _ _ _
      obtain ⟨v4, w4, r4, O4, g4, _⟩ := append_sb (w.heap.size + 1) w3 22 _ v3 _ _ F3.own O3.sb (by rw [lo, lT]; omega) (by have := F3.sec.lt; omega)
      have F4 : ExW cu sq s info w w4 v4 v3 (k + 1) := by
        refine ⟨(g4.block _ F3.sec.lt (fun e => ?_)).trans F3.sec, O4, (O3.of_block fun j hj => g4.block j (O3.lt j hj).2 (fun e => ?_)).sb, below_grown' F3.b g4 (fun j hj => ?_) F3.b.size⟩
        · have := ow1 _ e.symm
          omega
        · have h1 := ow1 _ e.symm
          have h2 := O3.lt j hj
          omega
        · have := ow1 _ hj
          omega
      refine wp_region_seq ?_
      refine seqM h 31 7 rfl rfl rfl rfl rfl ?_
      clear h
      intro a h
      refine seqM h 32 8 rfl rfl rfl rfl rfl ?_
      clear h
      intro a h
      refine seqW h 33 v4 w4 rfl rfl rfl (fun K hK => wp_append_run _ _ _ _ rfl _ _ (h.ev 31 rfl) (h.ev 32 rfl) _ _ r4 hK) ?_
      clear h
      intro a h
      refine seqA h 7 33 rfl rfl rfl rfl rfl ?_
      clear h
      intro a h
      refine wpSeq_nil ?_
      show Code.wp _ _ _ _ _
      refine wp_region_seq ?_
      refine seqM h 15 9 rfl rfl rfl rfl rfl ?_
      clear h
      intro a h
      refine seqH h 16 (Value.int .i64 ((k : Int) + 1 + 1)) rfl rfl (Or.inl ⟨rfl, fun w' hw' => by
          subst hw'
          have e15 : a.eval (.tmp 15) = _ := h.ev 15 rfl
          have e2 : IntKind.i64.wrap ((k : Int) + 1 + 1) = (k : Int) + 1 + 1 := by rw [IntKind.wrap_i64]; omega
          simp only [execOp, e15]
          go_simp⟩) ?_
      clear h
      intro a h
      refine seqA h 9 16 rfl rfl rfl rfl rfl ?_
      clear h
      intro a h
      refine wpSeq_nil ?_
      refine ⟨⟨k + 1, v4, v3, by omega, h.trim _ ?_, F4⟩, ?_⟩
      · intro p hp
        simp only [baseE, List.mem_cons, List.not_mem_nil, or_false] at hp
        rcases hp with rfl | rfl | rfl | rfl | rfl | rfl <;> rfl
      · have hm2 : a.tmps.getD 9 undef = .int .i64 ((k : Int) + 1 + 1) := h.val 9 _ rfl
        rw [hm2]
        simp only [intOf]
        omega
    · intro c d v a w hq
      cases d <;> exact hq
  · have ek : k = (n + 31) / 32 := by omega
    have j2 : ¬ (((32 * k : Nat) : Int) < (n : Int)) := by omega
    have FB := F.b
    have O := F.own
    have e1 : expandL cu sq s info n = (okm cu sq s info k).take n := by rw [ek]; rfl
    have H : SB wr (.slice pb n cb) (expandL cu sq s info n) := by
      have ln := expandL_length cu sq s info n
      rcases O.row with ⟨e, _⟩ | ⟨g, cap, e, hg, _, _, hb, _⟩
      · simp only [Value.slice.injEq] at e
        obtain ⟨rfl, _, rfl⟩ := e
        have h0 : n = 0 := by omega
        subst h0
        rw [List.eq_nil_of_length_eq_zero ln]
        exact SB.nil _ _ _
      · simp only [Value.slice.injEq] at e
        obtain ⟨rfl, _, _⟩ := e
        rw [e1] at ln ⊢
        exact SB.of_ba' (hb.take n) ln.symm (by omega)
    have k0 : (0 : Int) ≤ (n : Int) := by omega
    have k1 : (n : Int) ≤ (cb : Int) := by omega
    have k2 : n ≤ cb := by omega
    clear O e1 ek lo
    refine seqM h 11 7 rfl rfl rfl rfl rfl ?_
    clear h
    intro a h
    refine seqH h 12 (Value.int .i64 ((32 * k : Nat) : Int)) rfl rfl (Or.inl ⟨rfl, fun w' hw' => by
        subst hw'
        have e11 : a.eval (.tmp 11) = _ := h.ev 11 rfl
        have f11 := h.at_ 11 rfl
        simp only [execOp, e11]
        go_simp⟩) ?_
    clear h
    intro a h
    refine seqM h 13 2 rfl rfl rfl rfl rfl ?_
    clear h
    intro a h
    refine seqH h 14 (Value.bool false) rfl rfl (Or.inl ⟨rfl, fun w' hw' => by
        subst hw'
        have e12 : a.eval (.tmp 12) = _ := h.ev 12 rfl
        have e13 : a.eval (.tmp 13) = _ := h.ev 13 rfl
        have j3 : (n : Int) ≤ 32 * (k : Int) := by omega
        simp only [execOp, e12, e13]
        go_simp⟩) ?_
    clear h
    intro a h
    refine wpSeq_nil ?_
    show Code.wp _ _ _ _ _
    refine wp_cond (t := false) (h.ev 14 rfl) ?_
    refine wp_exit ?_
    show Code.wp _ _ _ _ _
    repeat refine wp_seq ?_
    refine wp_region_seq ?_
    refine seqM h 34 7 rfl rfl rfl rfl rfl ?_
    clear h
    intro a h
    refine seqM h 35 2 rfl rfl rfl rfl rfl ?_
    clear h
    intro a h
    refine seqH h 36 (Value.slice pb n cb) rfl rfl (Or.inl ⟨rfl, fun w' hw' => by
        subst hw'
        have e34 : a.eval (.tmp 34) = _ := h.ev 34 rfl
        have e35 : a.eval (.tmp 35) = _ := h.ev 35 rfl
        have f34 := h.at_ 34 rfl
        have f35 := h.at_ 35 rfl
        simp only [execOp, e34, e35]
        go_simp⟩) ?_
    clear h
    intro a h
    refine seqA h 6 36 rfl rfl rfl rfl rfl ?_
    clear h
    intro a h
    refine wpSeq_nil ?_
    show Code.wp _ _ _ _ _
    refine wp_ret ?_
    exact bodyPost_ret (results_tmp rfl _ _ _) h.defers ⟨_, rfl, by rw [h.val 6 _ rfl]; exact H, FB⟩
end Go.Proofs.YtjkocockbglenaaDoor
