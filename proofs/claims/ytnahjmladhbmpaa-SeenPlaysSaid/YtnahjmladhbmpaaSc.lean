/- Spans in memory: a Seen's block, rows of spans of one's own. -/
import Derived.Test.YtnahjmladhbmpaaSb
import Derived.Test.YtnahjmladhbmpaaLr
import Derived.Test.YtnahjmladhbmpaaLq
import Derived.Laws.CopyRow
import Derived.ArgAppend
namespace Go.Proofs.Ytnahjmladhbmpaa
open Go.RowKit

/-- A span's cells. -/
def spL (p : Nat × Nat) : List Value := [.int .u64 ((p.1 : Nat) : Int), .int .u64 ((p.2 : Nat) : Int)]
def spC (l : List (Nat × Nat)) : List Value := l.flatMap spL
theorem spC_nil : spC [] = [] := rfl
theorem spC_cons (p : Nat × Nat) (l : List (Nat × Nat)) : spC (p :: l) = .int .u64 ((p.1 : Nat) : Int) :: .int .u64 ((p.2 : Nat) : Int) :: spC l := rfl
theorem spC_append (a b : List (Nat × Nat)) : spC (a ++ b) = spC a ++ spC b := by simp [spC]
theorem spC_length : ∀ l : List (Nat × Nat), (spC l).length = l.length * 2
  | [] => rfl
  | p :: l => by
    rw [spC_cons, List.length_cons, List.length_cons, spC_length l, List.length_cons]
    omega
theorem spC_get : ∀ (l : List (Nat × Nat)) (i : Nat) (_ : i < l.length), (spC l)[i * 2]? = some (.int .u64 (((l.getD i (0, 0)).1 : Nat) : Int)) ∧ (spC l)[i * 2 + 1]? = some (.int .u64 (((l.getD i (0, 0)).2 : Nat) : Int))
  | [], _, h => absurd h (Nat.not_lt_zero _)
  | p :: l, 0, _ => ⟨rfl, rfl⟩
  | p :: l, i + 1, h => by
    rw [spC_cons, show (i + 1) * 2 = i * 2 + 1 + 1 by omega]
    simp only [List.getElem?_cons_succ, List.getD_cons_succ]
    exact spC_get l i (by simpa using h)
theorem spC_set : ∀ (l : List (Nat × Nat)) (i x : Nat) (_ : i < l.length), (spC l).set (i * 2) (.int .u64 (x : Int)) = spC (l.set i (x, (l.getD i (0, 0)).2)) ∧ (spC l).set (i * 2 + 1) (.int .u64 (x : Int)) = spC (l.set i ((l.getD i (0, 0)).1, x))
  | [], _, _, h => absurd h (Nat.not_lt_zero _)
  | p :: l, 0, x, _ => ⟨rfl, rfl⟩
  | p :: l, i + 1, x, h => by
    rw [spC_cons, show (i + 1) * 2 = i * 2 + 1 + 1 by omega]
    obtain ⟨h1, h2⟩ := spC_set l i x (by simpa using h)
    simp only [List.set_cons_succ, List.getD_cons_succ, spC_cons, h1, h2, and_self]
theorem spC_set2 : ∀ (l : List (Nat × Nat)) (i : Nat) (p : Nat × Nat) (_ : i < l.length), ((spC l).set (i * 2) (.int .u64 ((p.1 : Nat) : Int))).set (i * 2 + 1) (.int .u64 ((p.2 : Nat) : Int)) = spC (l.set i p) := fun l i p h => by
  rw [(spC_set l i p.1 h).1, (spC_set _ i p.2 (by simpa using h)).2]
  simp [h]
theorem spC_take : ∀ (l : List (Nat × Nat)) (k : Nat), (spC l).take (k * 2) = spC (l.take k)
  | [], k => by simp [spC]
  | p :: l, 0 => rfl
  | p :: l, k + 1 => by
    rw [spC_cons, show (k + 1) * 2 = k * 2 + 1 + 1 by omega, List.take_succ_cons, List.take_succ_cons, spC_take l k, List.take_succ_cons, spC_cons]
theorem spC_drop : ∀ (l : List (Nat × Nat)) (k : Nat), (spC l).drop (k * 2) = spC (l.drop k)
  | [], k => by simp [spC]
  | p :: l, 0 => rfl
  | p :: l, k + 1 => by
    rw [spC_cons, show (k + 1) * 2 = k * 2 + 1 + 1 by omega, List.drop_succ_cons, List.drop_succ_cons, spC_drop l k, List.drop_succ_cons]
theorem spC_one (l : List (Nat × Nat)) : ∀ v ∈ spC l, v.oneCell' = true := fun v hv => by
  obtain ⟨p, _, hp⟩ := List.mem_flatMap.1 hv
  simp only [spL, List.mem_cons, List.not_mem_nil, or_false] at hp
  rcases hp with rfl | rfl <;> rfl
/-- A Seen's cells: 32 spans, how many count, the floor. -/
def seenL (M : List (Nat × Nat)) (n fl : Nat) : List Value := spC M ++ [.int .i64 (n : Int), .int .u64 (fl : Int)]
theorem seenL_length (M : List (Nat × Nat)) (n fl : Nat) (h : M.length = 32) : (seenL M n fl).length = 66 := by
  simp [seenL, spC_length, h]
theorem seen_lo (M : List (Nat × Nat)) (n fl i x : Nat) (h : i < M.length) : (seenL M n fl).toArray.setIfInBounds (i * 2) (.int .u64 (x : Int)) = (seenL (M.set i (x, (M.getD i (0, 0)).2)) n fl).toArray := by
  unfold seenL
  rw [List.setIfInBounds_toArray, List.set_append_left _ _ (by rw [spC_length]; omega), (spC_set M i x h).1]
theorem seen_hi (M : List (Nat × Nat)) (n fl i x : Nat) (h : i < M.length) : (seenL M n fl).toArray.setIfInBounds (i * 2 + 1) (.int .u64 (x : Int)) = (seenL (M.set i ((M.getD i (0, 0)).1, x)) n fl).toArray := by
  unfold seenL
  rw [List.setIfInBounds_toArray, List.set_append_left _ _ (by rw [spC_length]; omega), (spC_set M i x h).2]
theorem seen_n (M : List (Nat × Nat)) (n fl m : Nat) (h : M.length = 32) : (seenL M n fl).toArray.setIfInBounds 64 (.int .i64 (m : Int)) = (seenL M m fl).toArray := by
  unfold seenL
  have e : (spC M).length = 64 := by rw [spC_length, h]
  rw [List.setIfInBounds_toArray, List.set_append_right _ _ (by omega), e]
  rfl
theorem seen_fl (M : List (Nat × Nat)) (n fl m : Nat) (h : M.length = 32) : (seenL M n fl).toArray.setIfInBounds 65 (.int .u64 (m : Int)) = (seenL M n m).toArray := by
  unfold seenL
  have e : (spC M).length = 64 := by rw [spC_length, h]
  rw [List.setIfInBounds_toArray, List.set_append_right _ _ (by omega), e]
  rfl
/-- A Seen in block g: its spans, its floor. -/
def SM (w : World) (g : Nat) (l : List (Nat × Nat)) (fl : Nat) : Prop := ∃ rest, (l ++ rest).length = 32 ∧ Blk w g 29 (seenL (l ++ rest) l.length fl).toArray
section
variable {w w' : World} {g : Nat} {M : List (Nat × Nat)} {n fl : Nat} {l : List (Nat × Nat)}
theorem row_lo (h : Blk w g 29 (seenL M n fl).toArray) (i : Nat) (hi : i < M.length) : w.cell? ⟨g, i * 2, none⟩ = some (.int .u64 (((M.getD i (0, 0)).1 : Nat) : Int)) := by
  rw [Blk.cell h, List.getElem?_toArray]
  unfold seenL
  rw [List.getElem?_append_left (by rw [spC_length]; omega), (spC_get M i hi).1]
theorem row_hi (h : Blk w g 29 (seenL M n fl).toArray) (i : Nat) (hi : i < M.length) : w.cell? ⟨g, i * 2 + 1, none⟩ = some (.int .u64 (((M.getD i (0, 0)).2 : Nat) : Int)) := by
  rw [Blk.cell h, List.getElem?_toArray]
  unfold seenL
  rw [List.getElem?_append_left (by rw [spC_length]; omega), (spC_get M i hi).2]
theorem row_n (h : Blk w g 29 (seenL M n fl).toArray) (hM : M.length = 32) : w.cell? ⟨g, 64, none⟩ = some (.int .i64 (n : Int)) := by
  rw [Blk.cell h, List.getElem?_toArray]
  unfold seenL
  rw [List.getElem?_append_right (by rw [spC_length]; omega), spC_length, hM]
  rfl
theorem row_fl (h : Blk w g 29 (seenL M n fl).toArray) (hM : M.length = 32) : w.cell? ⟨g, 65, none⟩ = some (.int .u64 (fl : Int)) := by
  rw [Blk.cell h, List.getElem?_toArray]
  unfold seenL
  rw [List.getElem?_append_right (by rw [spC_length]; omega), spC_length, hM]
  rfl
theorem row_cs (h : Blk w g 29 (seenL M n fl).toArray) (k m : Nat) (hkm : k + m ≤ M.length) (j : Nat) (v : Value) (hj : (spC ((M.drop k).take m))[j]? = some v) : w.cell? ((⟨g, k * 2, none⟩ : Addr).add j) = some v := by
  have hl : j < ((M.drop k).take m).length * 2 := by
    rw [← spC_length]
    exact (List.getElem?_eq_some_iff.1 hj).1
  rw [List.length_take, List.length_drop] at hl
  rw [Addr.add_lit, Blk.cell h, List.getElem?_toArray]
  unfold seenL
  rw [List.getElem?_append_left (by rw [spC_length]; omega), ← hj, ← spC_take, ← spC_drop, List.getElem?_take_of_lt (by omega), List.getElem?_drop]
theorem SM.lt (h : SM w g l fl) : g < w.heap.size := by
  obtain ⟨_, _, K⟩ := h
  exact K.lt
theorem SM.len (h : SM w g l fl) : l.length ≤ 32 := by
  obtain ⟨r, hr, _⟩ := h
  rw [List.length_append] at hr
  omega
theorem SM.below {B : Nat} (h : SM w g l fl) (hb : Below B w w') (hg : g < B) : SM w' g l fl := by
  obtain ⟨r, hr, K⟩ := h
  exact ⟨r, hr, K.below hb hg⟩
theorem SM.of_block (h : SM w g l fl) (hb : w'.heap[g]? = w.heap[g]?) : SM w' g l fl := by
  obtain ⟨r, hr, K⟩ := h
  exact ⟨r, hr, hb.trans K⟩
theorem getD_left (a b : List (Nat × Nat)) (i : Nat) (h : i < a.length) : (a ++ b).getD i (0, 0) = a.getD i (0, 0) := by
  rw [List.getD_eq_getElem?_getD, List.getElem?_append_left h, ← List.getD_eq_getElem?_getD]
theorem SM.lo (h : SM w g l fl) (i : Nat) (hi : i < l.length) : w.cell? ⟨g, i * 2, none⟩ = some (.int .u64 (((l.getD i (0, 0)).1 : Nat) : Int)) := by
  obtain ⟨r, hr, K⟩ := h
  rw [row_lo K i (by rw [List.length_append]; omega), getD_left _ _ _ hi]
theorem SM.hi (h : SM w g l fl) (i : Nat) (hi : i < l.length) : w.cell? ⟨g, i * 2 + 1, none⟩ = some (.int .u64 (((l.getD i (0, 0)).2 : Nat) : Int)) := by
  obtain ⟨r, hr, K⟩ := h
  rw [row_hi K i (by rw [List.length_append]; omega), getD_left _ _ _ hi]
theorem SM.num (h : SM w g l fl) : w.cell? ⟨g, 64, none⟩ = some (.int .i64 (l.length : Int)) := by
  obtain ⟨r, hr, K⟩ := h
  exact row_n K hr
theorem SM.flo (h : SM w g l fl) : w.cell? ⟨g, 65, none⟩ = some (.int .u64 (fl : Int)) := by
  obtain ⟨r, hr, K⟩ := h
  exact row_fl K hr
end
/-! ### Slices of spans -/
/-- Spans in block g from o on. -/
structure PA (w : World) (g o : Nat) (l : List (Nat × Nat)) : Prop where
  at_ : ∀ (i : Nat) (_ : i < l.length), w.rangeAt g (o + i * 2) (spL (l.getD i (0, 0)))
  lt : g < w.heap.size
theorem PA.lo {w : World} {g o : Nat} {l : List (Nat × Nat)} (h : PA w g o l) (i : Nat) (hi : i < l.length) : w.cell? ⟨g, o + i * 2, none⟩ = some (.int .u64 (((l.getD i (0, 0)).1 : Nat) : Int)) := h.at_ i hi 0 _ rfl
theorem PA.hi {w : World} {g o : Nat} {l : List (Nat × Nat)} (h : PA w g o l) (i : Nat) (hi : i < l.length) : w.cell? ⟨g, o + i * 2 + 1, none⟩ = some (.int .u64 (((l.getD i (0, 0)).2 : Nat) : Int)) := h.at_ i hi 1 _ rfl
theorem PA.below {w w1 : World} {g o : Nat} {l : List (Nat × Nat)} (h : PA w g o l) (hb : Below w.heap.size w w1) : PA w1 g o l :=
  ⟨fun i hi => rangeAt_below (h.at_ i hi) hb h.lt, Nat.lt_of_lt_of_le h.lt hb.size⟩
theorem PA.of_block {w w1 : World} {g o : Nat} {l : List (Nat × Nat)} (h : PA w g o l) (hb : w1.heap[g]? = w.heap[g]?) : PA w1 g o l := by
  have hlt : g < w1.heap.size := by
    rcases Nat.lt_or_ge g w1.heap.size with h1 | h1
    · exact h1
    · rw [Array.getElem?_eq_none h1, Array.getElem?_eq_getElem h.lt] at hb
      cases hb
  exact ⟨fun i hi => rangeAt_block (h.at_ i hi) hb, hlt⟩
theorem PA.cells {w : World} {g o : Nat} {l : List (Nat × Nat)} (h : PA w g o l) (j : Nat) (v : Value) (hj : (spC l)[j]? = some v) : w.cell? ((⟨g, o, none⟩ : Addr).add j) = some v := by
  have hl : j < l.length * 2 := by
    rw [← spC_length]
    exact (List.getElem?_eq_some_iff.1 hj).1
  rw [Addr.add_lit]
  have hi : j / 2 < l.length := by omega
  have h1 := spC_get l (j / 2) hi
  rcases Nat.mod_two_eq_zero_or_one j with h2 | h2
  · have e : j = j / 2 * 2 := by omega
    rw [e] at hj ⊢
    rw [h.lo _ hi, ← h1.1, hj]
  · have e : j = j / 2 * 2 + 1 := by omega
    rw [e] at hj ⊢
    rw [← Nat.add_assoc, h.hi _ hi, ← h1.2, hj]
/-- A slice of spans. -/
def SA (w : World) (v : Value) (l : List (Nat × Nat)) : Prop := ∃ p c, v = .slice p l.length c ∧ l.length ≤ c ∧ (l = [] ∨ ∃ g o, p = some ⟨g, o, none⟩ ∧ PA w g o l)
theorem SA.below {w w1 : World} {v : Value} {l : List (Nat × Nat)} (h : SA w v l) (hb : Below w.heap.size w w1) : SA w1 v l := by
  obtain ⟨p, c, e, hc, h1⟩ := h
  refine ⟨p, c, e, hc, ?_⟩
  rcases h1 with h1 | ⟨g, o, e, h1⟩
  · exact Or.inl h1
  · exact Or.inr ⟨g, o, e, h1.below hb⟩
theorem SA.nil (w : World) (p : Option Addr) (c : Nat) : SA w (.slice p 0 c) [] := ⟨p, c, rfl, Nat.zero_le _, Or.inl rfl⟩
theorem SA.len {w : World} {p : Option Addr} {n c : Nat} {l : List (Nat × Nat)} (h : SA w (.slice p n c) l) : n = l.length ∧ l.length ≤ c := by
  obtain ⟨q, d, e, hc, h1⟩ := h
  simp only [Value.slice.injEq] at e
  obtain ⟨rfl, rfl, rfl⟩ := e
  exact ⟨rfl, hc⟩
theorem SA.at_ {w : World} {p : Option Addr} {n c : Nat} {l : List (Nat × Nat)} (h : SA w (.slice p n c) l) : n = 0 ∨ ∃ g o, p = some ⟨g, o, none⟩ ∧ PA w g o l := by
  obtain ⟨q, d, e, hc, h1⟩ := h
  simp only [Value.slice.injEq] at e
  obtain ⟨rfl, rfl, rfl⟩ := e
  rcases h1 with h1 | h1
  · exact Or.inl (by rw [h1]; rfl)
  · exact Or.inr h1
theorem SA.shape {w : World} {v : Value} {l : List (Nat × Nat)} (h : SA w v l) : ∃ p c, v = .slice p l.length c := by
  obtain ⟨p, c, e, _⟩ := h
  exact ⟨p, c, e⟩
theorem info_sp : (Try.prog.info? 26).map (·.size) = some 2 := by kernel_rfl
theorem info_spL (p : Nat × Nat) : (Try.prog.info? 26).map (·.size) = some (spL p).length := info_sp
def OwS (B : Nat) (w : World) (v : Value) (l : List (Nat × Nat)) : Prop := w.ownsRow B 26 2 v l.length (spC l)
theorem OwS.nil (B : Nat) (w : World) : OwS B w (.slice none 0 0) [] := ⟨rfl, .inl ⟨rfl, rfl⟩⟩
theorem OwS.of_block {B : Nat} {w w' : World} {v : Value} {l : List (Nat × Nat)} (h : OwS B w v l) (hb : ∀ g, v.ownBlock = some g → w'.heap[g]? = w.heap[g]?) : OwS B w' v l := by
  obtain ⟨hl, hr⟩ := h
  refine ⟨hl, hr.imp id ?_⟩
  rintro ⟨g, cap, cur, e, hB, hg, r⟩
  exact ⟨g, cap, cur, e, hB, by rw [hb g (by rw [e]; rfl)]; exact hg, r⟩
theorem OwS.lt {B : Nat} {w : World} {v : Value} {l : List (Nat × Nat)} (h : OwS B w v l) (g : Nat) (hg : v.ownBlock = some g) : B ≤ g ∧ g < w.heap.size := World.ownsRow.lt h g hg
theorem OwS.below {B : Nat} {w w' : World} {v : Value} {l : List (Nat × Nat)} (h : OwS B w v l) (hb : Below w.heap.size w w') : OwS B w' v l :=
  h.of_block fun g hg => hb.block g (h.lt g hg).2
theorem OwS.shape {B : Nat} {w : World} {v : Value} {l : List (Nat × Nat)} (h : OwS B w v l) : ∃ p c, v = .slice p l.length c := by
  obtain ⟨_, h | ⟨g, cap, cur, e, _⟩⟩ := h
  · exact ⟨none, 0, by rw [h.1, h.2]⟩
  · exact ⟨_, cap, e⟩
/-- The row itself: a slice of one's own that isn't nil. -/
theorem OwS.row {B : Nat} {w : World} {v : Value} {l : List (Nat × Nat)} (h : OwS B w v l) : (v = .slice none 0 0 ∧ l = []) ∨ ∃ g cap cur, v = .slice (some ⟨g, 0, none⟩) l.length cap ∧ B ≤ g ∧ l.length ≤ cap ∧ Blk w g 26 cur ∧ l.length * 2 ≤ cur.size ∧ PA w g 0 l := by
  obtain ⟨hl, h | ⟨g, cap, cur, e, hB, hg, hn, hc, hcs, ht⟩⟩ := h
  · exact Or.inl ⟨h.1, List.length_eq_zero_iff.1 h.2⟩
  · right
    have hlt : g < w.heap.size := by
      rcases Nat.lt_or_ge g w.heap.size with h1 | h1
      · exact h1
      · rw [Array.getElem?_eq_none h1] at hg
        cases hg
    refine ⟨g, cap, cur, e, hB, hn, hg, by rw [hcs]; exact Nat.mul_le_mul_right 2 hn, fun i hi j u hu => ?_, hlt⟩
    have hj : j < 2 := (List.getElem?_eq_some_iff.1 hu).1
    have h1 : (spC l)[i * 2 + j]? = (spL (l.getD i (0, 0)))[j]? := by
      have h2 := spC_get l i hi
      rcases (by omega : j = 0 ∨ j = 1) with rfl | rfl
      · exact h2.1
      · exact h2.2
    rw [← ht, List.getElem?_take_of_lt (by omega)] at h1
    rw [cell_of_row w g _ cur _ _ hg, ← Array.getElem?_toList, Nat.zero_add, h1]
    exact hu
theorem OwS.sa {B : Nat} {w : World} {v : Value} {l : List (Nat × Nat)} (h : OwS B w v l) : SA w v l := by
  rcases h.row with ⟨rfl, rfl⟩ | ⟨g, cap, cur, rfl, _, hc, _, _, hp⟩
  · exact SA.nil _ _ _
  · exact ⟨_, cap, rfl, hc, Or.inr ⟨g, 0, rfl, hp⟩⟩
theorem info_sp_all : (Try.prog.info? 26).map (fun i => (i.size, i.bytes)) = some (2, 16) := by kernel_rfl
theorem info_sp_zero : (Try.prog.info? 26).map (fun i => i.zero) = some (some (.agg #[.int .u64 0, .int .u64 0])) := by kernel_rfl
theorem info_sp3 : ∃ i, Try.prog.info? 26 = some i ∧ i.size = 2 ∧ i.bytes = 16 ∧ i.zero = some (.agg #[.int .u64 0, .int .u64 0]) := by
  have h1 := info_sp_all
  have h2 := info_sp_zero
  cases h : Try.prog.info? 26 with
  | none => rw [h] at h1; cases h1
  | some i =>
    rw [h] at h1 h2
    simp only [Option.map_some, Option.some.injEq, Prod.mk.injEq] at h1 h2
    exact ⟨i, rfl, h1.1, h1.2, h2⟩
/-- Spans behind a row of one's own. -/
theorem append_sp (B : Nat) (w : World) (ty : TypeId) (v : Value) (l m : List (Nat × Nat)) (O : OwS B w v l) (a : Addr) (c : Nat) (hx : ∀ j u, (spC m)[j]? = some u → w.cell? (a.add j) = some u) (hl : l.length + m.length ≤ 100000) (hB : B ≤ w.heap.size) :
    ∃ v' w', (Builtin.append_ #[39, 39] ty #[v, .slice (some a) m.length c]).run Try.prog w = .ok v' w' ∧ OwS B w' v' (l ++ m) ∧ w.grownBy w' v.ownBlock ∧ (v'.ownBlock = v.ownBlock ∨ v'.ownBlock = some w.heap.size) := by
  obtain ⟨i, hi, hs, hy, hz⟩ := info_sp3
  obtain ⟨v', w', hr, h2, h3, h4, h5⟩ := run_append_own_at (P := Try.prog) _ B 39 ty 26 i (.agg #[.int .u64 0, .int .u64 0]) 2 16 Try.underlying39 hi hz hs hy rfl (by decide) v l.length (spC l) O a m.length c (spC m) (spC_length m)
    hx (spC_one m) (by simp only [maxLen]; omega) (by omega) hB
  refine ⟨v', w', hr, ?_, h3, h5⟩
  unfold OwS
  rw [List.length_append, spC_append]
  exact h2
end Go.Proofs.Ytnahjmladhbmpaa
