/- Bytes as lists: slices that read as bytes, slices of them; Sum256 as a function on lists. -/
import Derived.Test.YtnahjmladhbmpaaProg
import Derived.Test.YtnahjmladhbmpaaLo
import Derived.Laws.BytesArg
import Derived.Deep.MidRow
import Derived.Deep.AppendLies
import Derived.Laws.CopyOwn
namespace Go.Proofs.Ytnahjmladhbmpaa
open Go.RowKit

theorem cell_congr {w w' : World} {g i : Nat} (h : w'.heap[g]? = w.heap[g]?) : w'.cell? ⟨g, i, none⟩ = w.cell? ⟨g, i, none⟩ := by simp only [World.cell?, h]
def NI (l : List Nat) : List Int := l.map fun x => ((x : Nat) : Int)
theorem NI_length (l : List Nat) : (NI l).length = l.length := by simp [NI]
theorem NI_get (l : List Nat) (i : Nat) (h : i < l.length) : (Iv .u8 (NI l))[i]? = some (.int .u8 ((l[i] : Nat) : Int)) := by
  rw [Iv_get _ _ _ (by rw [NI_length]; exact h)]
  simp [NI, h]
theorem NI_inj {a b : List Nat} (h : NI a = NI b) : a = b := by
  unfold NI at h
  exact (List.map_inj_right fun x y e => by omega).1 h
/-- Every number is a byte. -/
def Bytes (l : List Nat) : Prop := ∀ x ∈ l, x < 256
theorem Bytes.nil : Bytes [] := fun _ h => by cases h
theorem Bytes.append {a b : List Nat} (ha : Bytes a) (hb : Bytes b) : Bytes (a ++ b) := fun x h => (List.mem_append.1 h).elim (ha x) (hb x)
theorem Bytes.take {a : List Nat} (ha : Bytes a) (n : Nat) : Bytes (a.take n) := fun x h => ha x (List.mem_of_mem_take h)
theorem Bytes.drop {a : List Nat} (ha : Bytes a) (n : Nat) : Bytes (a.drop n) := fun x h => ha x (List.mem_of_mem_drop h)
theorem Bytes.flatten {ls : List (List Nat)} (h : ∀ l ∈ ls, Bytes l) : Bytes ls.flatten := fun x hx => by
  obtain ⟨l, hl, hxl⟩ := List.mem_flatten.1 hx
  exact h l hl x hxl
theorem Bytes.getD {a : List Nat} (ha : Bytes a) (i : Nat) : a.getD i 0 < 256 := by
  by_cases h : i < a.length
  · simp [h]; exact ha _ (List.getElem_mem h)
  · rw [List.getD_eq_getElem?_getD, List.getElem?_eq_none (by omega)]
    decide
theorem Bytes.replicate (n : Nat) {x : Nat} (hx : x < 256) : Bytes (List.replicate n x) := fun y hy => by
  rw [(List.mem_replicate.1 hy).2]
  exact hx

/-- The bytes l lie in block g, from cell o on. -/
structure BA (w : World) (g o : Nat) (l : List Nat) : Prop where
  cell : ∀ (i : Nat) (h : i < l.length), w.cell? ⟨g, o + i, none⟩ = some (.int .u8 ((l[i] : Nat) : Int))
  blk : g < w.heap.size
theorem BA.below {w w1 : World} {g o : Nat} {l : List Nat} (h : BA w g o l) (hb : Below w.heap.size w w1) : BA w1 g o l :=
  ⟨fun i hi => (hb.cell (p := ⟨g, o + i, none⟩) h.blk).trans (h.cell i hi), Nat.lt_of_lt_of_le h.blk hb.size⟩
theorem BA.of_block {w w1 : World} {g o : Nat} {l : List Nat} (h : BA w g o l) (hb : w1.heap[g]? = w.heap[g]?) : BA w1 g o l := by
  have hlt : g < w1.heap.size := by
    rcases Nat.lt_or_ge g w1.heap.size with h1 | h1
    · exact h1
    · rw [Array.getElem?_eq_none h1, Array.getElem?_eq_getElem h.blk] at hb
      cases hb
  exact ⟨fun i hi => (cell_congr hb).trans (h.cell i hi), hlt⟩
theorem BA.drew {w : World} {g o : Nat} {l : List Nat} (h : BA w g o l) : BA w.drew g o l := ⟨h.cell, h.blk⟩
theorem BA.of_blk {w : World} {g : Nat} {t : TypeId} {l : List Nat} (h : Blk w g t (Iv .u8 (NI l))) : BA w g 0 l :=
  ⟨fun i hi => by rw [Nat.zero_add, h.cell, NI_get _ _ hi], h.lt⟩
theorem BA.take {w : World} {g o : Nat} {l : List Nat} (h : BA w g o l) (n : Nat) : BA w g o (l.take n) :=
  ⟨fun i hi => by
    have hl : i < l.length := by rw [List.length_take] at hi; omega
    rw [h.cell i hl, List.getElem_take], h.blk⟩
theorem BA.drop {w : World} {g o : Nat} {l : List Nat} (h : BA w g o l) (n : Nat) : BA w g (o + n) (l.drop n) :=
  ⟨fun i hi => by
    have hl : n + i < l.length := by rw [List.length_drop] at hi; omega
    rw [Nat.add_assoc, h.cell (n + i) hl, List.getElem_drop], h.blk⟩
/-- A slice that reads as the bytes l; an empty one may be nil. -/
def SB (w : World) (v : Value) (l : List Nat) : Prop := ∃ p c, v = .slice p l.length c ∧ l.length ≤ c ∧ (l = [] ∨ ∃ g o, p = some ⟨g, o, none⟩ ∧ BA w g o l)
theorem SB.below {w w1 : World} {v : Value} {l : List Nat} (h : SB w v l) (hb : Below w.heap.size w w1) : SB w1 v l := by
  obtain ⟨p, c, h1, h2, h3⟩ := h
  refine ⟨p, c, h1, h2, ?_⟩
  rcases h3 with h3 | ⟨g, o, h4, h5⟩
  · exact Or.inl h3
  · exact Or.inr ⟨g, o, h4, h5.below hb⟩
theorem SB.drew {w : World} {v : Value} {l : List Nat} (h : SB w v l) : SB w.drew v l := h.below (below_drew (Below.refl _ _))
theorem SB.of_ba {w : World} {g o c : Nat} {l : List Nat} (h : BA w g o l) (hc : l.length ≤ c) : SB w (.slice (some ⟨g, o, none⟩) l.length c) l := ⟨_, c, rfl, hc, Or.inr ⟨g, o, rfl, h⟩⟩
theorem SB.of_ba' {w : World} {g o c n : Nat} {l : List Nat} (h : BA w g o l) (hn : n = l.length) (hc : l.length ≤ c) : SB w (.slice (some ⟨g, o, none⟩) n c) l := hn ▸ SB.of_ba h hc
theorem SB.nil (w : World) (p : Option Addr) (c : Nat) : SB w (.slice p 0 c) [] := ⟨p, c, rfl, Nat.zero_le _, Or.inl rfl⟩
/-- A slice of such slices. -/
def SP (w : World) (v : Value) (ls : List (List Nat)) : Prop := ∃ p c, v = .slice p ls.length c ∧ ls.length ≤ c ∧ (ls = [] ∨ ∃ g o, p = some ⟨g, o, none⟩ ∧ g < w.heap.size ∧ ∀ (i : Nat) (h : i < ls.length), ∃ u, w.cell? ⟨g, o + i, none⟩ = some u ∧ SB w u ls[i])
theorem SP.below {w w1 : World} {v : Value} {ls : List (List Nat)} (h : SP w v ls) (hb : Below w.heap.size w w1) : SP w1 v ls := by
  obtain ⟨p, c, h1, h2, h3⟩ := h
  refine ⟨p, c, h1, h2, ?_⟩
  rcases h3 with h3 | ⟨g, o, h4, h5, h6⟩
  · exact Or.inl h3
  · refine Or.inr ⟨g, o, h4, Nat.lt_of_lt_of_le h5 hb.size, fun i hi => ?_⟩
    obtain ⟨u, hu, hs⟩ := h6 i hi
    exact ⟨u, (hb.cell (p := ⟨g, o + i, none⟩) h5).trans hu, hs.below hb⟩
theorem SP.drew {w : World} {v : Value} {ls : List (List Nat)} (h : SP w v ls) : SP w.drew v ls := h.below (below_drew (Below.refl _ _))

theorem flat_take_succ (ls : List (List Nat)) (i : Nat) : (ls.take (i + 1)).flatten.length = (ls.take i).flatten.length + (ls.getD i []).length := by
  by_cases h : i < ls.length
  · rw [← List.take_append_getElem h, List.flatten_append, List.length_append, List.getD_eq_getElem?_getD, List.getElem?_eq_getElem h]
    simp
  · rw [List.take_of_length_le (show ls.length ≤ i + 1 by omega), List.take_of_length_le (show ls.length ≤ i by omega), List.getD_eq_getElem?_getD, List.getElem?_eq_none (show ls.length ≤ i by omega)]
    simp
theorem flat_get (ls : List (List Nat)) (i j : Nat) (hi : i < ls.length) (hj : j < ls[i].length) : ls.flatten[(ls.take i).flatten.length + j]? = some ls[i][j] := by
  have e : ls.flatten = (ls.take i).flatten ++ (ls[i] ++ (ls.drop (i + 1)).flatten) := by
    conv => lhs; rw [← List.take_append_drop i ls]
    rw [List.flatten_append, List.drop_eq_getElem_cons hi]
    rfl
  rw [e, List.getElem?_append_right (by omega), Nat.add_sub_cancel_left, List.getElem?_append_left hj, List.getElem?_eq_getElem hj]

theorem below_grown' {B : Nat} {a w w' : World} {row : Option Nat} (h : Below B a w) (hg : w.grownBy w' row) (hrow : ∀ k, row = some k → B ≤ k) (hB : B ≤ w.heap.size) : Below B a w' :=
  ⟨hg.os.trans h.os, hg.tape.trans h.tape, hg.output.trans h.output, Nat.le_trans h.size hg.size, fun i hi => (hg.block i (by omega) (fun e => by have := hrow i e.symm; omega)).trans (h.block i hi)⟩
theorem cells_at {w : World} {g o : Nat} {l : List Nat} (h : BA w g o l) (j : Nat) (v : Value) (hj : (l.map fun x => Value.int .u8 ((x : Nat) : Int))[j]? = some v) : w.cell? ((⟨g, o, none⟩ : Addr).add j) = some v := by
  have hl : j < l.length := by
    have := (List.getElem?_eq_some_iff.1 hj).1
    simpa using this
  rw [List.getElem?_map, List.getElem?_eq_getElem hl] at hj
  rw [Addr.add_lit, h.cell j hl]
  exact hj
theorem one_at (l : List Nat) : ∀ v ∈ l.map (fun x => Value.int .u8 ((x : Nat) : Int)), v.oneCell' = true := fun v hv => by
  obtain ⟨x, _, rfl⟩ := List.mem_map.1 hv
  rfl
theorem info_u8_all : (Try.prog.info? 5).map (fun i => (i.size, i.bytes)) = some (1, 1) := by kernel_rfl
theorem info_u8_zero : (Try.prog.info? 5).map (fun i => i.zero) = some (some (.int .u8 0)) := by kernel_rfl
theorem info_u8 : ∃ i, Try.prog.info? 5 = some i ∧ i.size = 1 ∧ i.bytes = 1 ∧ i.zero = some (.int .u8 0) := by
  have h1 := info_u8_all
  have h2 := info_u8_zero
  cases h : Try.prog.info? 5 with
  | none => rw [h] at h1; cases h1
  | some i =>
    rw [h] at h1 h2
    simp only [Option.map_some, Option.some.injEq, Prod.mk.injEq] at h1 h2
    exact ⟨i, rfl, h1.1, h1.2, h2⟩
def vals (l : List Nat) : List Value := l.map fun x => .int .u8 ((x : Nat) : Int)
theorem vals_length (l : List Nat) : (vals l).length = l.length := by simp [vals]
theorem vals_append (a b : List Nat) : vals (a ++ b) = vals a ++ vals b := by simp [vals]
/-- The bytes l in a row of the call's own, at block B or behind it; nil where there is none. -/
def OwL (B : Nat) (w : World) (v : Value) (l : List Nat) : Prop := w.ownsRow B 5 1 v l.length (vals l)
theorem OwL.nil (B : Nat) (w : World) : OwL B w (.slice none 0 0) [] := ⟨rfl, .inl ⟨rfl, rfl⟩⟩
theorem OwL.row {B : Nat} {w : World} {v : Value} {l : List Nat} (h : OwL B w v l) : (v = .slice none 0 0 ∧ l = []) ∨ ∃ g cap, v = .slice (some ⟨g, 0, none⟩) l.length cap ∧ B ≤ g ∧ l.length ≤ cap ∧ cap ≤ maxLen ∧ BA w g 0 l ∧ (∃ cur : Array Value, Blk w g 5 cur ∧ cur.size = cap) := by
  obtain ⟨hl, hr⟩ := h
  rcases hr with ⟨rfl, h0⟩ | ⟨g, cap, cur, rfl, hB, hg, hnc, hcm, hcs, htake⟩
  · exact Or.inl ⟨rfl, List.eq_nil_of_length_eq_zero h0⟩
  · refine Or.inr ⟨g, cap, rfl, hB, hnc, hcm, ⟨fun i hi => ?_, ?_⟩, cur, hg, by omega⟩
    · rw [Nat.zero_add, cell_of_row w g i cur _ _ hg, ← Array.getElem?_toList]
      have := List.getElem?_take (l := cur.toList) (i := l.length * 1) (j := i)
      rw [htake, if_pos (by omega)] at this
      rw [← this]
      simp [vals, hi]
    · rcases Nat.lt_or_ge g w.heap.size with h | h
      · exact h
      · rw [Array.getElem?_eq_none h] at hg
        cases hg
theorem OwL.sb {B : Nat} {w : World} {v : Value} {l : List Nat} (h : OwL B w v l) : SB w v l := by
  rcases h.row with ⟨rfl, rfl⟩ | ⟨g, cap, rfl, _, hc, _, hb, _⟩
  · exact SB.nil w none 0
  · exact SB.of_ba hb hc
theorem OwL.of_block {B : Nat} {w w' : World} {v : Value} {l : List Nat} (h : OwL B w v l) (hb : ∀ g, v.ownBlock = some g → w'.heap[g]? = w.heap[g]?) : OwL B w' v l := by
  obtain ⟨hl, hr⟩ := h
  refine ⟨hl, ?_⟩
  rcases hr with h | ⟨g, cap, cur, rfl, hB, hg, hnc, hcm, hcs, htake⟩
  · exact Or.inl h
  · exact Or.inr ⟨g, cap, cur, rfl, hB, (hb g rfl).trans hg, hnc, hcm, hcs, htake⟩
theorem OwL.lt {B : Nat} {w : World} {v : Value} {l : List Nat} (h : OwL B w v l) (g : Nat) (hg : v.ownBlock = some g) : B ≤ g ∧ g < w.heap.size := by
  rcases h.row with ⟨rfl, _⟩ | ⟨g', cap, rfl, hB, _, _, hb, _⟩
  · cases hg
  · simp only [Value.ownBlock, Option.some.injEq] at hg
    exact ⟨by omega, by have := hb.blk; omega⟩
theorem OwL.below {B : Nat} {w w' : World} {v : Value} {l : List Nat} (h : OwL B w v l) (hb : Below w.heap.size w w') : OwL B w' v l :=
  h.of_block fun g hg => hb.block g (h.lt g hg).2
theorem OwL.new (B : Nat) (w : World) (l : List Nat) (hB : B ≤ w.heap.size) (hl : l.length ≤ maxLen) : OwL B (w.alloc (.cells (vals l).toArray 5)) (.slice (some ⟨w.heap.size, 0, none⟩) l.length l.length) l :=
  ⟨by rw [vals_length, Nat.mul_one], .inr ⟨w.heap.size, l.length, _, rfl, hB, heap_alloc_new w _, Nat.le_refl _, hl, by simp [vals], by rw [List.take_of_length_le (by simp [vals])]⟩⟩

theorem SB.head {w : World} {p : Option Addr} {n c : Nat} {l : List Nat} (h : SB w (.slice p n c) l) (k : Nat) (hk : k ≤ n) : SB w (.slice p k c) (l.take k) := by
  obtain ⟨q, d, e, hc, h1⟩ := h
  simp only [Value.slice.injEq] at e
  obtain ⟨rfl, rfl, rfl⟩ := e
  have hl : (l.take k).length = k := by rw [List.length_take]; omega
  refine ⟨p, c, by rw [hl], by omega, ?_⟩
  rcases h1 with h1 | ⟨g, o, e, hb⟩
  · exact Or.inl (by rw [h1]; simp)
  · exact Or.inr ⟨g, o, e, hb.take k⟩
theorem SB.len {w : World} {p : Option Addr} {n c : Nat} {l : List Nat} (h : SB w (.slice p n c) l) : n = l.length ∧ l.length ≤ c := by
  obtain ⟨q, d, e, hc, h1⟩ := h
  simp only [Value.slice.injEq] at e
  obtain ⟨rfl, rfl, rfl⟩ := e
  exact ⟨rfl, hc⟩
theorem SB.at_ {w : World} {p : Option Addr} {n c : Nat} {l : List Nat} (h : SB w (.slice p n c) l) : n = 0 ∨ ∃ g o, p = some ⟨g, o, none⟩ ∧ BA w g o l := by
  obtain ⟨q, d, e, hc, h1⟩ := h
  simp only [Value.slice.injEq] at e
  obtain ⟨rfl, rfl, rfl⟩ := e
  rcases h1 with h1 | h1
  · exact Or.inl (by rw [h1]; rfl)
  · exact Or.inr h1

def tailP (p : Option Addr) (c k : Nat) : Option Addr := p.map fun a => if c = k then a else a.add k
theorem SB.tail {w : World} {p : Option Addr} {n c : Nat} {l : List Nat} (h : SB w (.slice p n c) l) (k : Nat) (hk : k ≤ n) : SB w (.slice (tailP p c k) (n - k) (c - k)) (l.drop k) := by
  obtain ⟨q, d, e, hc, h1⟩ := h
  simp only [Value.slice.injEq] at e
  obtain ⟨rfl, rfl, rfl⟩ := e
  have hl : (l.drop k).length = l.length - k := by rw [List.length_drop]
  refine ⟨_, c - k, by rw [hl], by omega, ?_⟩
  rcases h1 with h1 | ⟨g, o, rfl, hb⟩
  · exact Or.inl (by rw [h1]; simp)
  · by_cases hck : c = k
    · exact Or.inl (List.eq_nil_of_length_eq_zero (by omega))
    · exact Or.inr ⟨g, o + k, by simp [tailP, hck, Addr.add_lit], hb.drop k⟩
theorem ow_none (B : Nat) (w : World) (hB : B ≤ w.heap.size) : OwL B (w.alloc (.cells #[] 5)) (.slice (some ⟨w.heap.size, 0, none⟩) 0 0) [] := OwL.new B w [] hB (Nat.zero_le _)
theorem wp_append_run {P : Program} {o : Oper} {a : Act} {w : World} {K : Act → World → Prop} {Q : Exit → Act → World → Prop} (s x : Operand) (t u : TypeId)
    (ho : o.op = .call { callee := .builtin .append, args := #[s, x], argTypes := #[t, u] }) (v y : Value) (hs : a.eval s = v) (hx : a.eval x = y) (v' : Value) (w' : World)
    (hr : (Builtin.append_ #[t, u] o.type #[v, y]).run P w = .ok v' w') (h : K (a.put o.dst v') w') : o.wp P a w K Q := by
  unfold Oper.wp execOp
  simp only [ho, resolve, invoke, builtin, Sem.run_bind, Sem.run_pure, Result.andThen_ok, List.map_toArray, List.map_cons, List.map_nil, hs, hx, hr]
  exact h
theorem wp_build_run {P : Program} {o : Oper} {a : Act} {w : World} {K : Act → World → Prop} {Q : Exit → Act → World → Prop} (t : TypeId)
    (ho : o.op = .buildSlice t 0 #[]) (v' : Value) (w' : World) (hr : (Instr.buildSlice t 0 #[]).run P w = .ok v' w') (h : K (a.put o.dst v') w') : o.wp P a w K Q := by
  unfold Oper.wp execOp
  simp only [ho, Sem.run_bind, Array.map_empty, hr, Result.andThen_ok]
  exact h
theorem wpList_build_run {P : Program} {ops : Array Oper} {rest : List Oper} {o : Oper} {a : Act} {w : World} {Q : Exit → Act → World → Prop} (hgd : o.guard = none) (t : TypeId)
    (ho : o.op = .buildSlice t 0 #[]) (v' : Value) (w' : World) (hr : (Instr.buildSlice t 0 #[]).run P w = .ok v' w') (h : wpList P ops Q rest (a.put o.dst v') w') : wpList P ops Q (o :: rest) a w :=
  wpList_plain hgd fun _K hK => wp_build_run t ho v' w' hr (hK _ _ h)
theorem OwL.shape {B : Nat} {w : World} {v : Value} {l : List Nat} (h : OwL B w v l) : ∃ p c, v = .slice p l.length c := by
  rcases h.row with ⟨rfl, rfl⟩ | ⟨g, c, rfl, _⟩
  · exact ⟨none, 0, rfl⟩
  · exact ⟨_, c, rfl⟩
theorem SB.shape {w : World} {v : Value} {l : List Nat} (h : SB w v l) : ∃ p c, v = .slice p l.length c := by
  obtain ⟨p, c, e, _⟩ := h
  exact ⟨p, c, e⟩
theorem OwL.mono {B B' : Nat} {w : World} {v : Value} {l : List Nat} (h : OwL B w v l) (hB : B' ≤ B) : OwL B' w v l := by
  obtain ⟨hl, hr⟩ := h
  refine ⟨hl, hr.imp id ?_⟩
  rintro ⟨g, cap, cur, e, hb, r⟩
  exact ⟨g, cap, cur, e, Nat.le_trans hB hb, r⟩
theorem size_alloc1 (W : World) (x : Obj) : (W.alloc x).heap.size = W.heap.size + 1 := by simp
theorem rangeAt_below {B : Nat} {w w1 : World} {g o : Nat} {cs : List Value} (h : w.rangeAt g o cs) (hb : Below B w w1) (hg : g < B) : w1.rangeAt g o cs := fun j v hv => (hb.cell (p := ⟨g, o + j, none⟩) hg).trans (h j v hv)
theorem rangeAt_block {w w1 : World} {g o : Nat} {cs : List Value} (h : w.rangeAt g o cs) (hb : w1.heap[g]? = w.heap[g]?) : w1.rangeAt g o cs := fun j v hv => (cell_congr hb).trans (h j v hv)
theorem blk_range {w : World} {g : Nat} {t : TypeId} {cs : List Value} (h : Blk w g t cs.toArray) : w.rangeAt g 0 cs := fun j v hv => by
  rw [Nat.zero_add, h.cell, List.getElem?_toArray]
  exact hv
section
variable {P : Program} {md : Region.Mode} {ops : Array Oper} {Q : Exit → Act → World → Prop} {S : World → Prop}
theorem gstep (i : Nat) {oi : Oper} {fuel : Nat} {listed : Array Bool} {a : Act} {w : World} (hi : ops.toList[i]? = some oi) (hwd : Region.wanted oi (yielded ops a.tmps) = true) (hr : Region.ready md ops listed = [i])
    (h : oi.wp P a w (fun a' w' => S w' ∧ wpAnyS P md ops Q S fuel (listed.setIfInBounds i true) a' w') Q) : wpAnyS P md ops Q S (fuel + 1) listed a w := by
  refine wpAnyS_one hr ?_
  unfold wpOp
  rw [← Array.getElem?_toList, hi]
  simp only [hwd, if_true]
  left
  exact h
end


end Go.Proofs.Ytnahjmladhbmpaa
