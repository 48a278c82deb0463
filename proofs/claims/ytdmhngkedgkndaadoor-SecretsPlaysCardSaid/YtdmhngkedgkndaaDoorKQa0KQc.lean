/- The reference's sum: its loops, taken out of the program; rows of words. The reference's sum: the upper halves of a table, in a row (loop 0). The reference's sum: the upper halves of a table, in a row (loop 1). -/
import Derived.Test.YtdmhngkedgkndaaDoorSp0KRa
import Derived.Test.YtdmhngkedgkndaaDoorLq0Us
import Derived.Test.YtdmhngkedgkndaaDoorMMd0MSa
import Derived.Laws.BytesArg
namespace Go.Proofs.YtdmhngkedgkndaaDoor
open Go.RowKit
/-- The loops' bodies, in the text's order. -/
def kloopsOf : Code → List Code
  | .loop c => c :: kloopsOf c
  | .seq a b => kloopsOf a ++ kloopsOf b
  | .block _ c => kloopsOf c
  | .scope c => kloopsOf c
  | .cond _ a b => kloopsOf a ++ kloopsOf b
  | _ => []
noncomputable def sumLoop (k : Nat) : Code := ((Tryd.f23.body.map kloopsOf).getD []).getD k .skip
/-- The words l in block g. -/
structure RQ (w : World) (g : Nat) (l : List Nat) : Prop where
  cell : ∀ (i : Nat) (h : i < l.length), w.cell? ⟨g, i, none⟩ = some (.int .u64 ((l[i] : Nat) : Int))
  fz : ∀ i, w.frozen? ⟨g, i, none⟩ = false
  blk : g < w.heap.size
theorem frozen_congr {w w' : World} {g i : Nat} (h : w'.heap[g]? = w.heap[g]?) : w'.frozen? ⟨g, i, none⟩ = w.frozen? ⟨g, i, none⟩ := by simp only [World.frozen?, h]
theorem RQ.of_block {w w1 : World} {g : Nat} {l : List Nat} (h : RQ w g l) (hb : w1.heap[g]? = w.heap[g]?) : RQ w1 g l := by
  have hlt : g < w1.heap.size := by
    rcases Nat.lt_or_ge g w1.heap.size with h1 | h1
    · exact h1
    · rw [Array.getElem?_eq_none h1, Array.getElem?_eq_getElem h.blk] at hb
      cases hb
  exact ⟨fun i hi => (cell_congr hb).trans (h.cell i hi), fun i => (frozen_congr hb).trans (h.fz i), hlt⟩
theorem RQ.below {w w1 : World} {g : Nat} {l : List Nat} (h : RQ w g l) (hb : Below w.heap.size w w1) : RQ w1 g l := h.of_block (hb.block g h.blk)
theorem RQ.of_blk {w : World} {g : Nat} {t : TypeId} {l : List Nat} (h : Blk w g t (Iv .u64 (NI l))) : RQ w g l :=
  ⟨fun i hi => by
    rw [h.cell, Iv_get _ _ _ (by rw [NI_length]; exact hi)]
    simp [NI, hi], h.frozen, h.lt⟩
theorem RQ.take {w : World} {g : Nat} {l : List Nat} (h : RQ w g l) (n : Nat) : RQ w g (l.take n) :=
  ⟨fun i hi => by
    have hl : i < l.length := by rw [List.length_take] at hi; omega
    rw [h.cell i hl, List.getElem_take], h.fz, h.blk⟩
theorem RQ.set {w : World} {g : Nat} {l : List Nat} (h : RQ w g l) (k v : Nat) (hk : k < l.length) : RQ (w.setCell ⟨g, k, none⟩ (.int .u64 ((v : Nat) : Int))) g (l.set k v) := by
  refine ⟨fun i hi => ?_, fun i => ?_, by simpa [World.setCell] using h.blk⟩
  · have hi' : i < l.length := by simpa using hi
    rw [List.getElem_set]
    by_cases hik : k = i
    · subst hik
      rw [if_pos rfl]
      exact World.cell?_setCell_same w _ _ (h.cell k hk)
    · rw [if_neg hik]
      exact (World.cell?_setCell_other w ⟨g, k, none⟩ ⟨g, i, none⟩ _ (fun e => hik (by cases e; rfl))).trans (h.cell i hi')
  · exact (World.frozen?_setCell w _ _ _).trans (h.fz i)
theorem RQ.far {w : World} {g : Nat} {l : List Nat} (h : RQ w g l) {p : Addr} (hp : g ≠ p.block) (v : Value) : RQ (w.setCell p v) g l := h.of_block (heap_setCell_other w p g v hp)
theorem RQ.drew {w : World} {g : Nat} {l : List Nat} (h : RQ w g l) : RQ w.drew g l := ⟨h.cell, h.fz, h.blk⟩
theorem info_u64_all : (Tryd.prog.info? 59).map (fun i => (i.size, i.bytes)) = some (1, 8) := by kernel_rfl
theorem info_u64_zero : (Tryd.prog.info? 59).map (fun i => i.zero) = some (some (.int .u64 0)) := by kernel_rfl
theorem info_u64 : ∃ i, Tryd.prog.info? 59 = some i ∧ i.size = 1 ∧ i.bytes = 8 ∧ i.zero = some (.int .u64 0) := by
  have h1 := info_u64_all
  have h2 := info_u64_zero
  cases h : Tryd.prog.info? 59 with
  | none => rw [h] at h1; cases h1
  | some i =>
    rw [h] at h1 h2
    simp only [Option.map_some, Option.some.injEq, Prod.mk.injEq] at h1 h2
    exact ⟨i, rfl, h1.1, h1.2, h2⟩
def valsQ (l : List Nat) : List Value := l.map fun x => .int .u64 ((x : Nat) : Int)
theorem valsQ_length (l : List Nat) : (valsQ l).length = l.length := by simp [valsQ]
/-- The words l in a row of the call's own. -/
def OwQ (B : Nat) (w : World) (v : Value) (l : List Nat) : Prop := w.ownsRow B 59 1 v l.length (valsQ l)
theorem OwQ.nil (B : Nat) (w : World) : OwQ B w (.slice none 0 0) [] := ⟨rfl, .inl ⟨rfl, rfl⟩⟩
theorem OwQ.row {B : Nat} {w : World} {v : Value} {l : List Nat} (h : OwQ B w v l) : (v = .slice none 0 0 ∧ l = []) ∨ ∃ g cap, v = .slice (some ⟨g, 0, none⟩) l.length cap ∧ B ≤ g ∧ l.length ≤ cap ∧ RQ w g l := by
  obtain ⟨hl, hr⟩ := h
  rcases hr with ⟨rfl, h0⟩ | ⟨g, cap, cur, rfl, hB, hg, hnc, hcm, hcs, htake⟩
  · exact Or.inl ⟨rfl, List.eq_nil_of_length_eq_zero h0⟩
  · refine Or.inr ⟨g, cap, rfl, hB, hnc, ⟨fun i hi => ?_, fun i => frozen_of_row w g i cur _ hg, ?_⟩⟩
    · rw [cell_of_row w g i cur _ _ hg, ← Array.getElem?_toList]
      have := List.getElem?_take (l := cur.toList) (i := l.length * 1) (j := i)
      rw [htake, if_pos (by omega)] at this
      rw [← this]
      simp [valsQ, hi]
    · rcases Nat.lt_or_ge g w.heap.size with h | h
      · exact h
      · rw [Array.getElem?_eq_none h] at hg
        cases hg
theorem OwQ.shape {B : Nat} {w : World} {v : Value} {l : List Nat} (h : OwQ B w v l) : ∃ p c, v = .slice p l.length c := by
  rcases h.row with ⟨rfl, rfl⟩ | ⟨g, c, rfl, _⟩
  · exact ⟨none, 0, rfl⟩
  · exact ⟨_, c, rfl⟩
theorem OwQ.lt {B : Nat} {w : World} {v : Value} {l : List Nat} (h : OwQ B w v l) (g : Nat) (hg : v.ownBlock = some g) : B ≤ g ∧ g < w.heap.size := by
  rcases h.row with ⟨rfl, _⟩ | ⟨g', cap, rfl, hB, _, hb⟩
  · cases hg
  · simp only [Value.ownBlock, Option.some.injEq] at hg
    exact ⟨by omega, by have := hb.blk; omega⟩
theorem OwQ.of_block {B : Nat} {w w' : World} {v : Value} {l : List Nat} (h : OwQ B w v l) (hb : ∀ g, v.ownBlock = some g → w'.heap[g]? = w.heap[g]?) : OwQ B w' v l := by
  obtain ⟨hl, hr⟩ := h
  refine ⟨hl, ?_⟩
  rcases hr with h | ⟨g, cap, cur, rfl, hB, hg, hnc, hcm, hcs, htake⟩
  · exact Or.inl h
  · exact Or.inr ⟨g, cap, cur, rfl, hB, (hb g rfl).trans hg, hnc, hcm, hcs, htake⟩
theorem OwQ.below {B : Nat} {w w' : World} {v : Value} {l : List Nat} (h : OwQ B w v l) (hb : Below w.heap.size w w') : OwQ B w' v l :=
  h.of_block fun g hg => hb.block g (h.lt g hg).2
theorem append_q (B : Nat) (w : World) (ty : TypeId) (v : Value) (l m : List Nat) (hv : OwQ B w v l) (g c n : Nat) (hx : RQ w g m) (hn : n = m.length) (hlm : l.length + m.length ≤ 1000000) (hB : B ≤ w.heap.size) :
    ∃ v' w', (Builtin.append_ #[58, 58] ty #[v, .slice (some ⟨g, 0, none⟩) n c]).run Tryd.prog w = .ok v' w' ∧ OwQ B w' v' (l ++ m) ∧ w.grownBy w' v.ownBlock ∧ (v'.ownBlock = v.ownBlock ∨ v'.ownBlock = some w.heap.size) := by
  subst hn
  obtain ⟨i, hi, hs, hy, hz⟩ := info_u64
  obtain ⟨v', w', hr, h2, h3, h4, h5⟩ := run_append_own_at (P := Tryd.prog) w B 58 ty 59 i (.int .u64 0) 1 8 Tryd.underlying58 hi hz hs hy rfl (by decide) v l.length (valsQ l) hv ⟨g, 0, none⟩ m.length c (valsQ m) (by rw [valsQ_length, Nat.mul_one])
    (fun j u hu => by
      have hl : j < m.length := by
        have := (List.getElem?_eq_some_iff.1 hu).1
        simpa [valsQ] using this
      unfold valsQ at hu
      rw [List.getElem?_map, List.getElem?_eq_getElem hl] at hu
      rw [Addr.add_lit, Nat.zero_add, hx.cell j hl]
      exact hu)
    (fun u hu => by
      obtain ⟨x, _, rfl⟩ := List.mem_map.1 hu
      rfl) (by simp only [maxLen]; omega) (by omega) hB
  refine ⟨v', w', hr, ?_, h3, h5⟩
  unfold OwQ
  rw [List.length_append, show valsQ (l ++ m) = valsQ l ++ valsQ m by simp [valsQ]]
  exact h2
/-- The reference's tables hold the same roots. -/
structure Ref (w : World) (cu sq : Nat → Nat) : Prop where
  c3 : ∀ i, i < 80 → w.cell? ⟨0, i, none⟩ = some (.int .u64 ((cu i : Nat) : Int))
  c2 : ∀ i, i < 8 → w.cell? ⟨1, i, none⟩ = some (.int .u64 ((sq i : Nat) : Int))
  lcu : ∀ i, cu i < 18446744073709551616
  lsq : ∀ i, sq i < 18446744073709551616
  b1 : 0 < w.heap.size
  b2 : 1 < w.heap.size
theorem Ref.below {w w1 : World} {cu sq : Nat → Nat} (h : Ref w cu sq) (hb : Below w.heap.size w w1) : Ref w1 cu sq :=
  ⟨fun i hi => (hb.cell (p := ⟨0, i, none⟩) h.b1).trans (h.c3 i hi), fun i hi => (hb.cell (p := ⟨1, i, none⟩) h.b2).trans (h.c2 i hi), h.lcu, h.lsq, Nat.lt_of_lt_of_le h.b1 hb.size, Nat.lt_of_lt_of_le h.b2 hb.size⟩
theorem word_row (w : World) (x : Nat) : RQ (w.alloc (.cells #[.int .u64 ((x : Nat) : Int)] 59)) w.heap.size [x] :=
  RQ.of_blk (Blk.new w 59 (Iv .u64 (NI [x])))
end Go.Proofs.YtdmhngkedgkndaaDoor
namespace Go.Proofs.YtdmhngkedgkndaaDoor
open Go.RowKit
def kbase0 (bv rv : Value) : List (Nat × Value) := [(0, bv), (1, .int .i64 32), (2, rv), (7, .int .i64 4), (8, .int .i64 64), (10, .slice none 0 0)]
def half (f : Nat → Nat) (k : Nat) : List Nat := (List.range k).map fun i => f i / 4294967296
theorem half_length (f : Nat → Nat) (k : Nat) : (half f k).length = k := by simp [half]
theorem half_succ (f : Nat → Nat) (k : Nat) : half f (k + 1) = half f k ++ [f k / 4294967296] := by simp [half, List.range_succ]
set_option maxHeartbeats 4000000 in
set_option maxRecDepth 100000 in
theorem loop0_any (cu sq : Nat → Nat) (w0 : World) (bv rv : Value) (R : Ref w0 cu sq) {Q : Exit → Act → World → Prop} (a : Act) (h : Has 380 ((11, .int .i64 0) :: (9, .slice none 0 0) :: kbase0 bv rv) a)
    (hexit : ∀ a' w' v, Has 380 ((9, v) :: kbase0 bv rv) a' → OwQ w0.heap.size w' v (half cu 64) → Below w0.heap.size w0 w' → Q (.exit 0) a' w') : Code.wp Tryd.prog (.loop (sumLoop 0)) Q a w0 := by
  refine wp_loop (fun a' w' => ∃ (k : Nat) (v : Value), k ≤ 64 ∧ Has 380 ((11, .int .i64 (k : Int)) :: (9, v) :: kbase0 bv rv) a' ∧ OwQ w0.heap.size w' v (half cu k) ∧ Below w0.heap.size w0 w') (fun a' _ => 64 - (intOf (a'.tmps.getD 11 undef)).toNat) ?_ ?_
  · exact ⟨0, _, Nat.zero_le _, h, OwQ.nil _ _, Below.refl _ _⟩
  clear h a
  rintro a w ⟨k, v, hk, h, O, B⟩
  have hm : a.tmps.getD 11 undef = .int .i64 (k : Int) := h.val 11 _ rfl
  generalize a.tmps.getD 11 undef = x at hm ⊢
  subst hm
  have RR := R.below B
  conv => arg 2; whnf
  refine wp_seq (wp_seq ?_)
  refine wp_region_seq ?_
  obtain ⟨p, c, rfl⟩ := O.shape
  have lh := half_length cu k
  by_cases hlt : k < 64
  · have l0 : (k : Int) < 64 := by omega
    have l1 : (0 : Int) ≤ (k : Int) := by omega
    have l2 : (k : Int) < 80 := by omega
    have c1 := RR.c3 k (by omega)
    have c2 := RR.lcu k
    refine seqM h 36 11 rfl rfl rfl rfl rfl ?_
    clear h
    intro a h
    refine seqM h 37 8 rfl rfl rfl rfl rfl ?_
    clear h
    intro a h
    refine seqH h 38 (Value.bool true) rfl rfl (Or.inl ⟨rfl, fun w' hw' => by
        subst hw'
        have e36 : a.eval (.tmp 36) = _ := h.ev 36 rfl
        have e37 : a.eval (.tmp 37) = _ := h.ev 37 rfl
        simp only [execOp, e36, e37]
        go_simp⟩) ?_
    clear h
    intro a h
    refine wpSeq_nil ?_
    show Code.wp _ _ _ _ _
    refine wp_cond (t := true) (h.ev 38 rfl) ?_
    refine wp_skip ?_
    show Code.wp _ _ _ _ _
    refine wp_seq (wp_block ?_)
    refine wp_region_seq ?_
    have w32 : IntKind.i64.wrap 32 = 32 := by rw [IntKind.wrap_i64]; rfl
    refine seqM h 41 9 rfl rfl rfl rfl rfl ?_
    clear h
    intro a h
    refine seqM h 42 11 rfl rfl rfl rfl rfl ?_
    clear h
    intro a h
    refine seqH h 43 (Value.pointer (some ⟨0, k, none⟩)) rfl rfl (Or.inl ⟨rfl, fun w' hw' => by
        subst hw'
        have e42 : a.eval (.tmp 42) = _ := h.ev 42 rfl
        simp only [execOp, e42]
        go_simp⟩) ?_
    clear h
    intro a h
    refine seqH h 44 (Value.int .u64 ((cu k : Nat) : Int)) rfl rfl (Or.inl ⟨rfl, fun w' hw' => by
        subst hw'
        have e43 : a.eval (.tmp 43) = _ := h.ev 43 rfl
        simp only [execOp, e43]
        go_simp⟩) ?_
    clear h
    intro a h
    refine seqM h 45 1 rfl rfl rfl rfl rfl ?_
    clear h
    intro a h
    refine seqH h 46 (Value.int .i64 32) rfl rfl (Or.inl ⟨rfl, fun w' hw' => by
        subst hw'
        have e45 : a.eval (.tmp 45) = _ := h.ev 45 rfl
        simp only [execOp, e45]
        go_simp⟩) ?_
    clear h
    intro a h
    refine seqH h 47 (Value.int .u64 (((cu k : Nat) : Int) / 4294967296)) rfl rfl (Or.inl ⟨rfl, fun w' hw' => by
        subst hw'
        have e44 : a.eval (.tmp 44) = _ := h.ev 44 rfl
        have e46 : a.eval (.tmp 46) = _ := h.ev 46 rfl
        simp only [execOp, e44, e46]
        go_simp⟩) ?_
    clear h
    intro a h
    have b7 : Below w.heap.size w (w.alloc (.cells #[.int .u64 (((cu k : Nat) : Int) / 4294967296)] 59)) := (Below.refl _ _).alloc (Nat.le_refl _) _
    have W7 := word_row w (cu k / 4294967296)
    rw [show ((cu k / 4294967296 : Nat) : Int) = (((cu k : Nat) : Int) / 4294967296) by omega] at W7
    refine seqW h 48 (.slice (some ⟨w.heap.size, 0, none⟩) 1 1) (w.alloc (.cells #[.int .u64 (((cu k : Nat) : Int) / 4294967296)] 59)) rfl rfl rfl (fun K hK => by
      have e1 := h.at_ 47 rfl
      unfold Oper.wp execOp
      go_simp
      exact hK) ?_
    clear h
    intro a h
    obtain ⟨v8, w8, r8, O8, g8, o8⟩ := append_q w0.heap.size _ 58 _ (half cu k) [cu k / 4294967296] (O.below b7) w.heap.size 1 1 W7 rfl (by rw [lh]; simp; omega) (by have := B.size; simp; omega)
    have B8 : Below w0.heap.size w0 w8 := below_grown' (B.trans (b7.mono B.size)) g8 (fun j hj => ((O.below b7).lt j hj).1) (by have := B.size; simp; omega)
    rw [← half_succ] at O8
    refine seqW h 49 v8 w8 rfl rfl rfl (fun K hK => wp_append_run _ _ _ _ rfl _ _ (h.ev 41 rfl) (h.ev 48 rfl) _ _ r8 hK) ?_
    clear h
    intro a h
    refine seqA h 9 49 rfl rfl rfl rfl rfl ?_
    clear h
    intro a h
    refine wpSeq_nil ?_
    show Code.wp _ _ _ _ _
    refine wp_region_seq ?_
    have ew : IntKind.i64.wrap ((k : Int) + 1) = (k : Int) + 1 := by rw [IntKind.wrap_i64]; omega
    refine seqM h 39 11 rfl rfl rfl rfl rfl ?_
    clear h
    intro a h
    refine seqH h 40 (Value.int .i64 ((k : Int) + 1)) rfl rfl (Or.inl ⟨rfl, fun w' hw' => by
        subst hw'
        have e39 : a.eval (.tmp 39) = _ := h.ev 39 rfl
        simp only [execOp, e39]
        go_simp⟩) ?_
    clear h
    intro a h
    refine seqA h 11 40 rfl rfl rfl rfl rfl ?_
    clear h
    intro a h
    refine wpSeq_nil ?_
    refine ⟨⟨k + 1, v8, by omega, h.trim _ ?_, O8, B8⟩, ?_⟩
    · intro p hp
      simp only [kbase0, List.mem_cons, List.not_mem_nil, or_false] at hp
      rcases hp with rfl | rfl | rfl | rfl | rfl | rfl | rfl | rfl <;> rfl
    · have hm2 : a.tmps.getD 11 undef = .int .i64 ((k + 1 : Nat) : Int) := h.val 11 _ rfl
      rw [hm2]
      simp only [intOf]
      omega
  · have l0 : ¬ ((k : Int) < 64) := by omega
    obtain rfl : k = 64 := by omega
    refine seqM h 36 11 rfl rfl rfl rfl rfl ?_
    clear h
    intro a h
    refine seqM h 37 8 rfl rfl rfl rfl rfl ?_
    clear h
    intro a h
    refine seqH h 38 (Value.bool false) rfl rfl (Or.inl ⟨rfl, fun w' hw' => by
        subst hw'
        have e36 : a.eval (.tmp 36) = _ := h.ev 36 rfl
        have e37 : a.eval (.tmp 37) = _ := h.ev 37 rfl
        simp only [execOp, e36, e37]
        go_simp⟩) ?_
    clear h
    intro a h
    refine wpSeq_nil ?_
    show Code.wp _ _ _ _ _
    refine wp_cond (t := false) (h.ev 38 rfl) ?_
    refine wp_exit ?_
    refine hexit _ _ _ (h.trim _ ?_) O B
    intro p hp
    simp only [kbase0, List.mem_cons, List.not_mem_nil, or_false] at hp
    rcases hp with rfl | rfl | rfl | rfl | rfl | rfl | rfl <;> rfl
end Go.Proofs.YtdmhngkedgkndaaDoor
namespace Go.Proofs.YtdmhngkedgkndaaDoor
open Go.RowKit
def kbase1 (bv rv tv : Value) : List (Nat × Value) := [(0, bv), (1, .int .i64 32), (2, rv), (7, .int .i64 4), (8, .int .i64 64), (9, tv)]
set_option maxHeartbeats 4000000 in
set_option maxRecDepth 100000 in
theorem loop1_any (cu sq : Nat → Nat) (w0 : World) (bv rv tv : Value) (R : Ref w0 cu sq) {Q : Exit → Act → World → Prop} (a : Act) (h : Has 380 ((12, .int .i64 0) :: (10, .slice none 0 0) :: kbase1 bv rv tv) a)
    (hexit : ∀ a' w' v, Has 380 ((10, v) :: kbase1 bv rv tv) a' → OwQ w0.heap.size w' v (half sq 8) → Below w0.heap.size w0 w' → Q (.exit 2) a' w') : Code.wp Tryd.prog (.loop (sumLoop 1)) Q a w0 := by
  refine wp_loop (fun a' w' => ∃ (k : Nat) (v : Value), k ≤ 8 ∧ Has 380 ((12, .int .i64 (k : Int)) :: (10, v) :: kbase1 bv rv tv) a' ∧ OwQ w0.heap.size w' v (half sq k) ∧ Below w0.heap.size w0 w') (fun a' _ => 8 - (intOf (a'.tmps.getD 12 undef)).toNat) ?_ ?_
  · exact ⟨0, _, Nat.zero_le _, h, OwQ.nil _ _, Below.refl _ _⟩
  clear h a
  rintro a w ⟨k, v, hk, h, O, B⟩
  have hm : a.tmps.getD 12 undef = .int .i64 (k : Int) := h.val 12 _ rfl
  generalize a.tmps.getD 12 undef = x at hm ⊢
  subst hm
  have RR := R.below B
  conv => arg 2; whnf
  refine wp_seq (wp_seq ?_)
  refine wp_region_seq ?_
  obtain ⟨p, c, rfl⟩ := O.shape
  have lh := half_length sq k
  by_cases hlt : k < 8
  · have l0 : (k : Int) < 8 := by omega
    have l1 : (0 : Int) ≤ (k : Int) := by omega
    have l2 : (k : Int) < 8 := by omega
    have c1 := RR.c2 k (by omega)
    have c2 := RR.lsq k
    refine seqM h 50 12 rfl rfl rfl rfl rfl ?_
    clear h
    intro a h
    refine seqH h 51 (Value.bool true) rfl rfl (Or.inl ⟨rfl, fun w' hw' => by
        subst hw'
        have e50 : a.eval (.tmp 50) = _ := h.ev 50 rfl
        simp only [execOp, e50]
        go_simp⟩) ?_
    clear h
    intro a h
    refine wpSeq_nil ?_
    show Code.wp _ _ _ _ _
    refine wp_cond (t := true) (h.ev 51 rfl) ?_
    refine wp_skip ?_
    show Code.wp _ _ _ _ _
    refine wp_seq (wp_block ?_)
    refine wp_region_seq ?_
    have w32 : IntKind.i64.wrap 32 = 32 := by rw [IntKind.wrap_i64]; rfl
    refine seqM h 54 10 rfl rfl rfl rfl rfl ?_
    clear h
    intro a h
    refine seqM h 55 12 rfl rfl rfl rfl rfl ?_
    clear h
    intro a h
    refine seqH h 56 (Value.pointer (some ⟨1, k, none⟩)) rfl rfl (Or.inl ⟨rfl, fun w' hw' => by
        subst hw'
        have e55 : a.eval (.tmp 55) = _ := h.ev 55 rfl
        simp only [execOp, e55]
        go_simp⟩) ?_
    clear h
    intro a h
    refine seqH h 57 (Value.int .u64 ((sq k : Nat) : Int)) rfl rfl (Or.inl ⟨rfl, fun w' hw' => by
        subst hw'
        have e56 : a.eval (.tmp 56) = _ := h.ev 56 rfl
        simp only [execOp, e56]
        go_simp⟩) ?_
    clear h
    intro a h
    refine seqM h 58 1 rfl rfl rfl rfl rfl ?_
    clear h
    intro a h
    refine seqH h 59 (Value.int .i64 32) rfl rfl (Or.inl ⟨rfl, fun w' hw' => by
        subst hw'
        have e58 : a.eval (.tmp 58) = _ := h.ev 58 rfl
        simp only [execOp, e58]
        go_simp⟩) ?_
    clear h
    intro a h
    refine seqH h 60 (Value.int .u64 (((sq k : Nat) : Int) / 4294967296)) rfl rfl (Or.inl ⟨rfl, fun w' hw' => by
        subst hw'
        have e57 : a.eval (.tmp 57) = _ := h.ev 57 rfl
        have e59 : a.eval (.tmp 59) = _ := h.ev 59 rfl
        simp only [execOp, e57, e59]
        go_simp⟩) ?_
    clear h
    intro a h
    have b7 : Below w.heap.size w (w.alloc (.cells #[.int .u64 (((sq k : Nat) : Int) / 4294967296)] 59)) := (Below.refl _ _).alloc (Nat.le_refl _) _
    have W7 := word_row w (sq k / 4294967296)
    rw [show ((sq k / 4294967296 : Nat) : Int) = (((sq k : Nat) : Int) / 4294967296) by omega] at W7
    refine seqW h 61 (.slice (some ⟨w.heap.size, 0, none⟩) 1 1) (w.alloc (.cells #[.int .u64 (((sq k : Nat) : Int) / 4294967296)] 59)) rfl rfl rfl (fun K hK => by
      have e1 := h.at_ 60 rfl
      unfold Oper.wp execOp
      go_simp
      exact hK) ?_
    clear h
    intro a h
    obtain ⟨v8, w8, r8, O8, g8, o8⟩ := append_q w0.heap.size _ 58 _ (half sq k) [sq k / 4294967296] (O.below b7) w.heap.size 1 1 W7 rfl (by rw [lh]; simp; omega) (by have := B.size; simp; omega)
    have B8 : Below w0.heap.size w0 w8 := below_grown' (B.trans (b7.mono B.size)) g8 (fun j hj => ((O.below b7).lt j hj).1) (by have := B.size; simp; omega)
    rw [← half_succ] at O8
    refine seqW h 62 v8 w8 rfl rfl rfl (fun K hK => wp_append_run _ _ _ _ rfl _ _ (h.ev 54 rfl) (h.ev 61 rfl) _ _ r8 hK) ?_
    clear h
    intro a h
    refine seqA h 10 62 rfl rfl rfl rfl rfl ?_
    clear h
    intro a h
    refine wpSeq_nil ?_
    show Code.wp _ _ _ _ _
    refine wp_region_seq ?_
    have ew : IntKind.i64.wrap ((k : Int) + 1) = (k : Int) + 1 := by rw [IntKind.wrap_i64]; omega
    refine seqM h 52 12 rfl rfl rfl rfl rfl ?_
    clear h
    intro a h
    refine seqH h 53 (Value.int .i64 ((k : Int) + 1)) rfl rfl (Or.inl ⟨rfl, fun w' hw' => by
        subst hw'
        have e52 : a.eval (.tmp 52) = _ := h.ev 52 rfl
        simp only [execOp, e52]
        go_simp⟩) ?_
    clear h
    intro a h
    refine seqA h 12 53 rfl rfl rfl rfl rfl ?_
    clear h
    intro a h
    refine wpSeq_nil ?_
    refine ⟨⟨k + 1, v8, by omega, h.trim _ ?_, O8, B8⟩, ?_⟩
    · intro p hp
      simp only [kbase1, List.mem_cons, List.not_mem_nil, or_false] at hp
      rcases hp with rfl | rfl | rfl | rfl | rfl | rfl | rfl | rfl <;> rfl
    · have hm2 : a.tmps.getD 12 undef = .int .i64 ((k + 1 : Nat) : Int) := h.val 12 _ rfl
      rw [hm2]
      simp only [intOf]
      omega
  · have l0 : ¬ ((k : Int) < 8) := by omega
    obtain rfl : k = 8 := by omega
    refine seqM h 50 12 rfl rfl rfl rfl rfl ?_
    clear h
    intro a h
    refine seqH h 51 (Value.bool false) rfl rfl (Or.inl ⟨rfl, fun w' hw' => by
        subst hw'
        have e50 : a.eval (.tmp 50) = _ := h.ev 50 rfl
        simp only [execOp, e50]
        go_simp⟩) ?_
    clear h
    intro a h
    refine wpSeq_nil ?_
    show Code.wp _ _ _ _ _
    refine wp_cond (t := false) (h.ev 51 rfl) ?_
    refine wp_exit ?_
    refine hexit _ _ _ (h.trim _ ?_) O B
    intro p hp
    simp only [kbase1, List.mem_cons, List.not_mem_nil, or_false] at hp
    rcases hp with rfl | rfl | rfl | rfl | rfl | rfl | rfl <;> rfl
end Go.Proofs.YtdmhngkedgkndaaDoor
