/- The reference's sum: its loops, taken out of the program; rows of words. -/
import Derived.Test.YtjkocockbglenaaDoorSp
import Derived.Test.YtjkocockbglenaaDoorRa
import Derived.Test.YtjkocockbglenaaDoorMi
namespace Go.Proofs.YtjkocockbglenaaDoor
open Go.RowKit

/-- The loops' bodies, in the text's order. -/
def loopsOf : Code → List Code
  | .loop c => c :: loopsOf c
  | .seq a b => loopsOf a ++ loopsOf b
  | .block _ c => loopsOf c
  | .scope c => loopsOf c
  | .cond _ a b => loopsOf a ++ loopsOf b
  | _ => []
noncomputable def sumLoop (k : Nat) : Code := ((Tryd.f22.body.map loopsOf).getD []).getD k .skip
/-- The words l in block g. -/
structure RQ (w : World) (g : Nat) (l : List Nat) : Prop where
  cell : ∀ (i : Nat) (h : i < l.length), w.cell? ⟨g, i, none⟩ = some (.int .u64 ((l[i] : Nat) : Int))
  fz : ∀ i, w.frozen? ⟨g, i, none⟩ = false
  blk : g < w.heap.size
theorem frozen_congr {w w' : World} {g i : Nat} (h : w'.heap[g]? = w.heap[g]?) : w'.frozen? ⟨g, i, none⟩ = w.frozen? ⟨g, i, none⟩ := by simp only [World.frozen?, h]
theorem RQ.of_block {w w1 : World} {g : Nat} {l : List Nat} (h : RQ w g l) (hb : w1.heap[g]? = w.heap[g]?) : RQ w1 g l := by
  have hlt : g < w1.heap.size := by
    rcases Nat.lt_or_ge g w1.heap.size with h1 | h1
    · exact h1
    · rw [Array.getElem?_eq_none h1, Array.getElem?_eq_getElem h.blk] at hb
      cases hb
  exact ⟨fun i hi => (cell_congr hb).trans (h.cell i hi), fun i => (frozen_congr hb).trans (h.fz i), hlt⟩
theorem RQ.below {w w1 : World} {g : Nat} {l : List Nat} (h : RQ w g l) (hb : Below w.heap.size w w1) : RQ w1 g l := h.of_block (hb.block g h.blk)
theorem RQ.of_blk {w : World} {g : Nat} {t : TypeId} {l : List Nat} (h : Blk w g t (Iv .u64 (NI l))) : RQ w g l :=
  ⟨fun i hi => by
    rw [h.cell, Iv_get _ _ _ (by rw [NI_length]; exact hi)]
    simp [NI, hi], h.frozen, h.lt⟩
theorem RQ.take {w : World} {g : Nat} {l : List Nat} (h : RQ w g l) (n : Nat) : RQ w g (l.take n) :=
  ⟨fun i hi => by
    have hl : i < l.length := by rw [List.length_take] at hi; omega
    rw [h.cell i hl, List.getElem_take], h.fz, h.blk⟩
theorem RQ.set {w : World} {g : Nat} {l : List Nat} (h : RQ w g l) (k v : Nat) (hk : k < l.length) : RQ (w.setCell ⟨g, k, none⟩ (.int .u64 ((v : Nat) : Int))) g (l.set k v) := by
  refine ⟨fun i hi => ?_, fun i => ?_, by simpa [World.setCell] using h.blk⟩
  · have hi' : i < l.length := by simpa using hi
    rw [List.getElem_set]
    by_cases hik : k = i
    · subst hik
      rw [if_pos rfl]
      exact World.cell?_setCell_same w _ _ (h.cell k hk)
    · rw [if_neg hik]
      exact (World.cell?_setCell_other w ⟨g, k, none⟩ ⟨g, i, none⟩ _ (fun e => hik (by cases e; rfl))).trans (h.cell i hi')
  · exact (World.frozen?_setCell w _ _ _).trans (h.fz i)
theorem RQ.far {w : World} {g : Nat} {l : List Nat} (h : RQ w g l) {p : Addr} (hp : g ≠ p.block) (v : Value) : RQ (w.setCell p v) g l := h.of_block (heap_setCell_other w p g v hp)
theorem RQ.drew {w : World} {g : Nat} {l : List Nat} (h : RQ w g l) : RQ w.drew g l := ⟨h.cell, h.fz, h.blk⟩
theorem info_u64_all : (Tryd.prog.info? 51).map (fun i => (i.size, i.bytes)) = some (1, 8) := by kernel_rfl
theorem info_u64_zero : (Tryd.prog.info? 51).map (fun i => i.zero) = some (some (.int .u64 0)) := by kernel_rfl
theorem info_u64 : ∃ i, Tryd.prog.info? 51 = some i ∧ i.size = 1 ∧ i.bytes = 8 ∧ i.zero = some (.int .u64 0) := by
  have h1 := info_u64_all
  have h2 := info_u64_zero
  cases h : Tryd.prog.info? 51 with
  | none => rw [h] at h1; cases h1
  | some i =>
    rw [h] at h1 h2
    simp only [Option.map_some, Option.some.injEq, Prod.mk.injEq] at h1 h2
    exact ⟨i, rfl, h1.1, h1.2, h2⟩
def valsQ (l : List Nat) : List Value := l.map fun x => .int .u64 ((x : Nat) : Int)
theorem valsQ_length (l : List Nat) : (valsQ l).length = l.length := by simp [valsQ]
/-- The words l in a row of the call's own. -/
def OwQ (B : Nat) (w : World) (v : Value) (l : List Nat) : Prop := w.ownsRow B 51 1 v l.length (valsQ l)
theorem OwQ.nil (B : Nat) (w : World) : OwQ B w (.slice none 0 0) [] := ⟨rfl, .inl ⟨rfl, rfl⟩⟩
theorem OwQ.row {B : Nat} {w : World} {v : Value} {l : List Nat} (h : OwQ B w v l) : (v = .slice none 0 0 ∧ l = []) ∨ ∃ g cap, v = .slice (some ⟨g, 0, none⟩) l.length cap ∧ B ≤ g ∧ l.length ≤ cap ∧ RQ w g l := by
  obtain ⟨hl, hr⟩ := h
  rcases hr with ⟨rfl, h0⟩ | ⟨g, cap, cur, rfl, hB, hg, hnc, hcm, hcs, htake⟩
  · exact Or.inl ⟨rfl, List.eq_nil_of_length_eq_zero h0⟩
  · refine Or.inr ⟨g, cap, rfl, hB, hnc, ⟨fun i hi => ?_, fun i => frozen_of_row w g i cur _ hg, ?_⟩⟩
    · rw [cell_of_row w g i cur _ _ hg, ← Array.getElem?_toList]
      have := List.getElem?_take (l := cur.toList) (i := l.length * 1) (j := i)
      rw [htake, if_pos (by omega)] at this
      rw [← this]
      simp [valsQ, hi]
    · rcases Nat.lt_or_ge g w.heap.size with h | h
      · exact h
      · rw [Array.getElem?_eq_none h] at hg
        cases hg
theorem OwQ.shape {B : Nat} {w : World} {v : Value} {l : List Nat} (h : OwQ B w v l) : ∃ p c, v = .slice p l.length c := by
  rcases h.row with ⟨rfl, rfl⟩ | ⟨g, c, rfl, _⟩
  · exact ⟨none, 0, rfl⟩
  · exact ⟨_, c, rfl⟩
theorem OwQ.lt {B : Nat} {w : World} {v : Value} {l : List Nat} (h : OwQ B w v l) (g : Nat) (hg : v.ownBlock = some g) : B ≤ g ∧ g < w.heap.size := by
  rcases h.row with ⟨rfl, _⟩ | ⟨g', cap, rfl, hB, _, hb⟩
  · cases hg
  · simp only [Value.ownBlock, Option.some.injEq] at hg
    exact ⟨by omega, by have := hb.blk; omega⟩
theorem OwQ.of_block {B : Nat} {w w' : World} {v : Value} {l : List Nat} (h : OwQ B w v l) (hb : ∀ g, v.ownBlock = some g → w'.heap[g]? = w.heap[g]?) : OwQ B w' v l := by
  obtain ⟨hl, hr⟩ := h
  refine ⟨hl, ?_⟩
  rcases hr with h | ⟨g, cap, cur, rfl, hB, hg, hnc, hcm, hcs, htake⟩
  · exact Or.inl h
  · exact Or.inr ⟨g, cap, cur, rfl, hB, (hb g rfl).trans hg, hnc, hcm, hcs, htake⟩
theorem OwQ.below {B : Nat} {w w' : World} {v : Value} {l : List Nat} (h : OwQ B w v l) (hb : Below w.heap.size w w') : OwQ B w' v l :=
  h.of_block fun g hg => hb.block g (h.lt g hg).2
theorem append_q (B : Nat) (w : World) (ty : TypeId) (v : Value) (l m : List Nat) (hv : OwQ B w v l) (g c n : Nat) (hx : RQ w g m) (hn : n = m.length) (hlm : l.length + m.length ≤ 1000000) (hB : B ≤ w.heap.size) :
    ∃ v' w', (Builtin.append_ #[57, 57] ty #[v, .slice (some ⟨g, 0, none⟩) n c]).run Tryd.prog w = .ok v' w' ∧ OwQ B w' v' (l ++ m) ∧ w.grownBy w' v.ownBlock ∧ (v'.ownBlock = v.ownBlock ∨ v'.ownBlock = some w.heap.size) := by
  subst hn
  obtain ⟨i, hi, hs, hy, hz⟩ := info_u64
  obtain ⟨v', w', hr, h2, h3, h4, h5⟩ := run_append_own_at (P := Tryd.prog) w B 57 ty 51 i (.int .u64 0) 1 8 Tryd.underlying57 hi hz hs hy rfl (by decide) v l.length (valsQ l) hv ⟨g, 0, none⟩ m.length c (valsQ m) (by rw [valsQ_length, Nat.mul_one])
    (fun j u hu => by
      have hl : j < m.length := by
        have := (List.getElem?_eq_some_iff.1 hu).1
        simpa [valsQ] using this
      unfold valsQ at hu
      rw [List.getElem?_map, List.getElem?_eq_getElem hl] at hu
      rw [Addr.add_lit, Nat.zero_add, hx.cell j hl]
      exact hu)
    (fun u hu => by
      obtain ⟨x, _, rfl⟩ := List.mem_map.1 hu
      rfl) (by simp only [maxLen]; omega) (by omega) hB
  refine ⟨v', w', hr, ?_, h3, h5⟩
  unfold OwQ
  rw [List.length_append, show valsQ (l ++ m) = valsQ l ++ valsQ m by simp [valsQ]]
  exact h2
/-- The reference's tables hold the same roots. -/
structure Ref (w : World) (cu sq : Nat → Nat) : Prop where
  c3 : ∀ i, i < 80 → w.cell? ⟨1, i, none⟩ = some (.int .u64 ((cu i : Nat) : Int))
  c2 : ∀ i, i < 8 → w.cell? ⟨2, i, none⟩ = some (.int .u64 ((sq i : Nat) : Int))
  lcu : ∀ i, cu i < 18446744073709551616
  lsq : ∀ i, sq i < 18446744073709551616
  b1 : 1 < w.heap.size
  b2 : 2 < w.heap.size
theorem Ref.below {w w1 : World} {cu sq : Nat → Nat} (h : Ref w cu sq) (hb : Below w.heap.size w w1) : Ref w1 cu sq :=
  ⟨fun i hi => (hb.cell (p := ⟨1, i, none⟩) h.b1).trans (h.c3 i hi), fun i hi => (hb.cell (p := ⟨2, i, none⟩) h.b2).trans (h.c2 i hi), h.lcu, h.lsq, Nat.lt_of_lt_of_le h.b1 hb.size, Nat.lt_of_lt_of_le h.b2 hb.size⟩
theorem word_row (w : World) (x : Nat) : RQ (w.alloc (.cells #[.int .u64 ((x : Nat) : Int)] 51)) w.heap.size [x] :=
  RQ.of_blk (Blk.new w 51 (Iv .u64 (NI [x])))
end Go.Proofs.YtjkocockbglenaaDoor
