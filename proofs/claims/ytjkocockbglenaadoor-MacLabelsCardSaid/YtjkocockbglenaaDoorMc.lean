/- mac: append of parts behind one; the contract of Sum. -/
import Derived.Test.YtjkocockbglenaaDoorMb
import Derived.Deep.AppendLies
namespace Go.Proofs.YtjkocockbglenaaDoor
open Go.RowKit

theorem info_sl_all : (Tryd.prog.info? 22).map (fun i => (i.size, i.bytes)) = some (1, 24) := by kernel_rfl
theorem info_sl_zero : (Tryd.prog.info? 22).map (fun i => i.zero) = some (some (.slice none 0 0)) := by kernel_rfl
theorem info_sl : ∃ i, Tryd.prog.info? 22 = some i ∧ i.size = 1 ∧ i.bytes = 24 ∧ i.zero = some (.slice none 0 0) := by
  have h1 := info_sl_all
  have h2 := info_sl_zero
  cases h : Tryd.prog.info? 22 with
  | none => rw [h] at h1; cases h1
  | some i =>
    rw [h] at h1 h2
    simp only [Option.map_some, Option.some.injEq, Prod.mk.injEq] at h1 h2
    exact ⟨i, rfl, h1.1, h1.2, h2⟩
theorem below_grown' {B : Nat} {a w w' : World} {row : Option Nat} (h : Below B a w) (hg : w.grownBy w' row) (hrow : ∀ k, row = some k → B ≤ k) (hB : B ≤ w.heap.size) : Below B a w' :=
  ⟨hg.os.trans h.os, hg.tape.trans h.tape, hg.output.trans h.output, Nat.le_trans h.size hg.size, fun i hi => (hg.block i (by omega) (fun e => by have := hrow i e.symm; omega)).trans (h.block i hi)⟩
theorem SB.one {w : World} {v : Value} {l : List Nat} (h : SB w v l) : v.oneCell' = true := by
  obtain ⟨p, c, rfl, _⟩ := h
  rfl
/-- Parts appended behind one that was just laid in a slice of its own. -/
theorem append_parts (w : World) (ty : TypeId) (v1 pv : Value) (l1 : List Nat) (ls : List (List Nat)) (h1 : SB w v1 l1) (hp : SP w pv ls) (hne : ls ≠ []) (hn : ls.length ≤ 1000) :
    ∃ v' w', (Builtin.append_ #[42, 42] ty #[.slice (some ⟨w.heap.size, 0, none⟩) 1 1, pv]).run Tryd.prog (w.alloc (.cells #[v1] 22)) = .ok v' w' ∧ SP w' v' (l1 :: ls) ∧ Below w.heap.size w w' := by
  obtain ⟨i, hi, hs, hy, hz⟩ := info_sl
  have b0 : Below w.heap.size w (w.alloc (.cells #[v1] 22)) := (Below.refl _ _).alloc (Nat.le_refl _) _
  obtain ⟨p, c, rfl, hc, h0 | ⟨g, o, rfl, hg, hcell⟩⟩ := hp
  · exact absurd h0 hne
  obtain ⟨ys, hys, hyl⟩ : ∃ ys : List Value, ys.length = ls.length ∧ ∀ (j : Nat) (h : j < ls.length), ∃ u, ys[j]? = some u ∧ w.cell? ⟨g, o + j, none⟩ = some u ∧ SB w u ls[j] := by
    refine ⟨(List.range ls.length).map fun j => (w.cell? ⟨g, o + j, none⟩).getD undef, by simp, fun j hj => ?_⟩
    obtain ⟨u, hu, hs⟩ := hcell j hj
    exact ⟨u, by simp [hj, hu], hu, hs⟩
  have hown : (w.alloc (.cells #[v1] 22)).ownsRow w.heap.size 22 1 (.slice (some ⟨w.heap.size, 0, none⟩) 1 1) 1 [v1] :=
    ⟨rfl, .inr ⟨w.heap.size, 1, #[v1], rfl, Nat.le_refl _, heap_alloc_new w _, Nat.le_refl _, by decide, rfl, rfl⟩⟩
  obtain ⟨v', w', hr, h2, h3, h4, h5⟩ := run_append_own_at (P := Tryd.prog) (w.alloc (.cells #[v1] 22)) w.heap.size 42 ty 22 i (.slice none 0 0) 1 24 Tryd.underlying42 hi hz hs hy rfl (by decide) _ 1 [v1] hown ⟨g, o, none⟩ ls.length c ys (by rw [hys, Nat.mul_one])
    (fun j u hu => by
      have hj : j < ls.length := by
        have := (List.getElem?_eq_some_iff.1 hu).1
        rwa [hys] at this
      obtain ⟨u', hu', hc', _⟩ := hyl j hj
      rw [hu'] at hu
      cases hu
      rw [Addr.add_lit]
      exact (b0.cell (p := ⟨g, o + j, none⟩) hg).trans hc')
    (fun u hu => by
      obtain ⟨j, hj, rfl⟩ := List.getElem_of_mem hu
      obtain ⟨u', hu', _, hs'⟩ := hyl j (by rw [← hys]; exact hj)
      rw [List.getElem?_eq_getElem hj] at hu'
      cases hu'
      exact hs'.one)
    (by simp only [maxLen]; omega) (by omega) b0.size
  have B : Below w.heap.size w w' := below_grown' b0 h3 (fun k hk => by
    simp only [Value.ownBlock, Option.some.injEq] at hk
    omega) b0.size
  refine ⟨v', w', hr, ?_, B⟩
  obtain ⟨hl, hrow⟩ := h2
  rcases hrow with ⟨rfl, h⟩ | ⟨g', cap, cur, rfl, _, hg', hnc, _, hcs, htake⟩
  · omega
  · refine ⟨some ⟨g', 0, none⟩, cap, by rw [List.length_cons, Nat.add_comm], by rw [List.length_cons]; omega, Or.inr ⟨g', 0, rfl, ?_, fun j hj => ?_⟩⟩
    · rcases Nat.lt_or_ge g' w'.heap.size with h | h
      · exact h
      · rw [Array.getElem?_eq_none h] at hg'
        cases hg'
    · have hc : w'.cell? ⟨g', 0 + j, none⟩ = ([v1] ++ ys)[j]? := by
        rw [Nat.zero_add, cell_of_row w' g' j cur _ _ hg', ← htake, Nat.mul_one, List.getElem?_take, if_pos (by simpa [Nat.add_comm] using hj), Array.getElem?_toList]
      cases j with
      | zero => exact ⟨v1, hc, h1.below B⟩
      | succ j =>
        have hj' : j < ls.length := by simpa using hj
        obtain ⟨u, hu, _, hs'⟩ := hyl j hj'
        exact ⟨u, hc.trans hu, hs'.below B⟩
/-- A slice of two slices, just built. -/
theorem sp_two {w : World} {u v : Value} {l m : List Nat} (t : TypeId) (h : SB w u l) (k : SB w v m) : SP (w.alloc (.cells #[u, v] t)) (.slice (some ⟨w.heap.size, 0, none⟩) 2 2) [l, m] := by
  have b := (Below.refl w.heap.size w).alloc (Nat.le_refl _) (.cells #[u, v] t)
  refine ⟨_, 2, rfl, Nat.le_refl _, Or.inr ⟨w.heap.size, 0, rfl, by simp, fun i hi => ?_⟩⟩
  have hb := (Blk.new w t #[u, v]).cell i
  rw [Nat.zero_add]
  match i, hi with
  | 0, _ => exact ⟨u, hb, h.below b⟩
  | 1, _ => exact ⟨v, hb, k.below b⟩
theorem sp_three {w : World} {u v x : Value} {l m n : List Nat} (t : TypeId) (h : SB w u l) (k : SB w v m) (j : SB w x n) : SP (w.alloc (.cells #[u, v, x] t)) (.slice (some ⟨w.heap.size, 0, none⟩) 3 3) [l, m, n] := by
  have b := (Below.refl w.heap.size w).alloc (Nat.le_refl _) (.cells #[u, v, x] t)
  refine ⟨_, 3, rfl, Nat.le_refl _, Or.inr ⟨w.heap.size, 0, rfl, by simp, fun i hi => ?_⟩⟩
  have hb := (Blk.new w t #[u, v, x]).cell i
  rw [Nat.zero_add]
  match i, hi with
  | 0, _ => exact ⟨u, hb, h.below b⟩
  | 1, _ => exact ⟨v, hb, k.below b⟩
  | 2, _ => exact ⟨x, hb, j.below b⟩
end Go.Proofs.YtjkocockbglenaaDoor
