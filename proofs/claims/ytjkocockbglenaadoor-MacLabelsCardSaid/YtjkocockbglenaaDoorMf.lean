/- mac: bytes out of a secret, by lists; append of bytes onto bytes of one's own. -/
import Derived.Test.YtjkocockbglenaaDoorMe
namespace Go.Proofs.YtjkocockbglenaaDoor
open Go.RowKit

theorem info_u8_all : (Tryd.prog.info? 5).map (fun i => (i.size, i.bytes)) = some (1, 1) := by kernel_rfl
theorem info_u8_zero : (Tryd.prog.info? 5).map (fun i => i.zero) = some (some (.int .u8 0)) := by kernel_rfl
theorem info_u8 : ∃ i, Tryd.prog.info? 5 = some i ∧ i.size = 1 ∧ i.bytes = 1 ∧ i.zero = some (.int .u8 0) := by
  have h1 := info_u8_all
  have h2 := info_u8_zero
  cases h : Tryd.prog.info? 5 with
  | none => rw [h] at h1; cases h1
  | some i =>
    rw [h] at h1 h2
    simp only [Option.map_some, Option.some.injEq, Prod.mk.injEq] at h1 h2
    exact ⟨i, rfl, h1.1, h1.2, h2⟩
def vals (l : List Nat) : List Value := l.map fun x => .int .u8 ((x : Nat) : Int)
theorem vals_length (l : List Nat) : (vals l).length = l.length := by simp [vals]
theorem vals_append (a b : List Nat) : vals (a ++ b) = vals a ++ vals b := by simp [vals]
/-- The bytes l in a row of the call's own, at block B or behind it; nil where there is none. -/
def OwL (B : Nat) (w : World) (v : Value) (l : List Nat) : Prop := w.ownsRow B 5 1 v l.length (vals l)
theorem OwL.nil (B : Nat) (w : World) : OwL B w (.slice none 0 0) [] := ⟨rfl, .inl ⟨rfl, rfl⟩⟩
theorem OwL.row {B : Nat} {w : World} {v : Value} {l : List Nat} (h : OwL B w v l) : (v = .slice none 0 0 ∧ l = []) ∨ ∃ g cap, v = .slice (some ⟨g, 0, none⟩) l.length cap ∧ B ≤ g ∧ l.length ≤ cap ∧ cap ≤ maxLen ∧ BA w g 0 l ∧ (∃ cur : Array Value, Blk w g 5 cur ∧ cur.size = cap) := by
  obtain ⟨hl, hr⟩ := h
  rcases hr with ⟨rfl, h0⟩ | ⟨g, cap, cur, rfl, hB, hg, hnc, hcm, hcs, htake⟩
  · exact Or.inl ⟨rfl, List.eq_nil_of_length_eq_zero h0⟩
  · refine Or.inr ⟨g, cap, rfl, hB, hnc, hcm, ⟨fun i hi => ?_, ?_⟩, cur, hg, by omega⟩
    · rw [Nat.zero_add, cell_of_row w g i cur _ _ hg, ← Array.getElem?_toList]
      have := List.getElem?_take (l := cur.toList) (i := l.length * 1) (j := i)
      rw [htake, if_pos (by omega)] at this
      rw [← this]
      simp [vals, hi]
    · rcases Nat.lt_or_ge g w.heap.size with h | h
      · exact h
      · rw [Array.getElem?_eq_none h] at hg
        cases hg
theorem OwL.sb {B : Nat} {w : World} {v : Value} {l : List Nat} (h : OwL B w v l) : SB w v l := by
  rcases h.row with ⟨rfl, rfl⟩ | ⟨g, cap, rfl, _, hc, _, hb, _⟩
  · exact SB.nil w none 0
  · exact SB.of_ba hb hc
theorem OwL.of_block {B : Nat} {w w' : World} {v : Value} {l : List Nat} (h : OwL B w v l) (hb : ∀ g, v.ownBlock = some g → w'.heap[g]? = w.heap[g]?) : OwL B w' v l := by
  obtain ⟨hl, hr⟩ := h
  refine ⟨hl, ?_⟩
  rcases hr with h | ⟨g, cap, cur, rfl, hB, hg, hnc, hcm, hcs, htake⟩
  · exact Or.inl h
  · exact Or.inr ⟨g, cap, cur, rfl, hB, (hb g rfl).trans hg, hnc, hcm, hcs, htake⟩
theorem OwL.lt {B : Nat} {w : World} {v : Value} {l : List Nat} (h : OwL B w v l) (g : Nat) (hg : v.ownBlock = some g) : B ≤ g ∧ g < w.heap.size := by
  rcases h.row with ⟨rfl, _⟩ | ⟨g', cap, rfl, hB, _, _, hb, _⟩
  · cases hg
  · simp only [Value.ownBlock, Option.some.injEq] at hg
    exact ⟨by omega, by have := hb.blk; omega⟩
theorem OwL.below {B : Nat} {w w' : World} {v : Value} {l : List Nat} (h : OwL B w v l) (hb : Below w.heap.size w w') : OwL B w' v l :=
  h.of_block fun g hg => hb.block g (h.lt g hg).2
theorem OwL.new (B : Nat) (w : World) (l : List Nat) (hB : B ≤ w.heap.size) (hl : l.length ≤ maxLen) : OwL B (w.alloc (.cells (vals l).toArray 5)) (.slice (some ⟨w.heap.size, 0, none⟩) l.length l.length) l :=
  ⟨by rw [vals_length, Nat.mul_one], .inr ⟨w.heap.size, l.length, _, rfl, hB, heap_alloc_new w _, Nat.le_refl _, hl, by simp [vals], by rw [List.take_of_length_le (by simp [vals])]⟩⟩

theorem append_ba (B : Nat) (w : World) (ty : TypeId) (v : Value) (l m : List Nat) (hv : OwL B w v l) (g o c : Nat) (hx : BA w g o m) (hlm : l.length + m.length ≤ 70368744177664) (hB : B ≤ w.heap.size) :
    ∃ v' w', (Builtin.append_ #[22, 22] ty #[v, .slice (some ⟨g, o, none⟩) m.length c]).run Tryd.prog w = .ok v' w' ∧ OwL B w' v' (l ++ m) ∧ w.grownBy w' v.ownBlock ∧ (v'.ownBlock = v.ownBlock ∨ v'.ownBlock = some w.heap.size) := by
  obtain ⟨i, hi, hs, hy, hz⟩ := info_u8
  obtain ⟨v', w', hr, h2, h3, h4, h5⟩ := run_append_own_at (P := Tryd.prog) w B 22 ty 5 i (.int .u8 0) 1 1 Tryd.underlying22 hi hz hs hy rfl (by decide) v l.length (vals l) hv ⟨g, o, none⟩ m.length c (vals m) (by rw [vals_length, Nat.mul_one])
    (fun j u hu => cells_at hx j u hu) (one_at m) (by simp only [maxLen]; omega) (by omega) hB
  refine ⟨v', w', hr, ?_, h3, h5⟩
  unfold OwL
  rw [List.length_append, vals_append]
  exact h2
theorem append_none (w : World) (ty : TypeId) (v : Value) (p : Option Addr) (n cap c : Nat) (q : Option Addr) (hv : v = .slice q n cap) (hc : n ≤ cap) :
    (Builtin.append_ #[22, 22] ty #[v, .slice p 0 c]).run Tryd.prog w = .ok v w := by
  subst hv
  obtain ⟨i, hi, hs, hy, hz⟩ := info_u8
  cases p <;> cases q <;> simp [Builtin.append_, run_underlying Tryd.underlying22, sizeOf, typeInfo, hi, hs, Builtin.lenOf, Builtin.firstCells, loadCells, loadCellsFrom, storeCells, hc]

/-- The row of sums: each of the one ahead, the purpose, and its number. -/
def Ti (cu sq : Nat → Nat) (s info : List Nat) : Nat → List Nat
  | 0 => []
  | k + 1 => hmac cu sq s [Ti cu sq s info k, info, [(k + 1) % 256]].flatten
theorem Ti_bytes (cu sq : Nat → Nat) (s info : List Nat) : ∀ k, Bytes (Ti cu sq s info k)
  | 0 => Bytes.nil
  | k + 1 => hmac_bytes _ _ _ _
theorem Ti_length (cu sq : Nat → Nat) (s info : List Nat) (k : Nat) : (Ti cu sq s info (k + 1)).length = 32 := hmac_length _ _ _ _
theorem Ti_le (cu sq : Nat → Nat) (s info : List Nat) : ∀ k, (Ti cu sq s info k).length ≤ 32
  | 0 => Nat.zero_le _
  | k + 1 => Nat.le_of_eq (Ti_length _ _ _ _ _)
def okm (cu sq : Nat → Nat) (s info : List Nat) : Nat → List Nat
  | 0 => []
  | k + 1 => okm cu sq s info k ++ Ti cu sq s info (k + 1)
theorem okm_length (cu sq : Nat → Nat) (s info : List Nat) : ∀ k, (okm cu sq s info k).length = 32 * k
  | 0 => rfl
  | k + 1 => by
    show (okm cu sq s info k ++ Ti cu sq s info (k + 1)).length = _
    rw [List.length_append, okm_length cu sq s info k, Ti_length]
    omega
theorem okm_bytes (cu sq : Nat → Nat) (s info : List Nat) : ∀ k, Bytes (okm cu sq s info k)
  | 0 => Bytes.nil
  | k + 1 => (okm_bytes cu sq s info k).append (Ti_bytes _ _ _ _ _)
theorem okm_take (cu sq : Nat → Nat) (s info : List Nat) (n j : Nat) (h : n ≤ 32 * j) : ∀ k, j ≤ k → (okm cu sq s info k).take n = (okm cu sq s info j).take n := by
  intro k hk
  induction k with
  | zero => rw [show j = 0 by omega]
  | succ k ih =>
    by_cases hj : j = k + 1
    · rw [hj]
    · rw [← ih (by omega)]
      show (okm cu sq s info k ++ Ti cu sq s info (k + 1)).take n = _
      rw [List.take_append_of_le_length (by rw [okm_length]; omega)]
/-- The first n bytes out of a secret. -/
def expandL (cu sq : Nat → Nat) (s info : List Nat) (n : Nat) : List Nat := (okm cu sq s info ((n + 31) / 32)).take n
theorem expandL_length (cu sq : Nat → Nat) (s info : List Nat) (n : Nat) : (expandL cu sq s info n).length = n := by
  unfold expandL
  rw [List.length_take, okm_length]
  omega
theorem expandL_bytes (cu sq : Nat → Nat) (s info : List Nat) (n : Nat) : Bytes (expandL cu sq s info n) := (okm_bytes _ _ _ _ _).take n
theorem expandL_of (cu sq : Nat → Nat) (s info : List Nat) (n k : Nat) (h : n ≤ 32 * k) : (okm cu sq s info k).take n = expandL cu sq s info n :=
  okm_take cu sq s info n _ (by omega) k (by omega)
theorem expandL_take (cu sq : Nat → Nat) (s info : List Nat) (n m : Nat) (h : n ≤ m) : (expandL cu sq s info m).take n = expandL cu sq s info n := by
  unfold expandL
  rw [List.take_take, Nat.min_eq_left h]
  exact expandL_of cu sq s info n _ (by omega)
end Go.Proofs.YtjkocockbglenaaDoor
