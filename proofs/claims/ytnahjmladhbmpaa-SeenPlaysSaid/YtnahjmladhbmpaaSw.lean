/- Slices of words of 64 bits: read, owned, appended to. -/
import Derived.Test.YtnahjmladhbmpaaSi
namespace Go.Proofs.Ytnahjmladhbmpaa
open Go.RowKit

/-- The words l lie in block g, from cell o on. -/
structure UA (w : World) (g o : Nat) (l : List Nat) : Prop where
  cell : ∀ (i : Nat) (h : i < l.length), w.cell? ⟨g, o + i, none⟩ = some (.int .u64 ((l[i] : Nat) : Int))
  blk : g < w.heap.size
theorem UA.below {w w1 : World} {g o : Nat} {l : List Nat} (h : UA w g o l) (hb : Below w.heap.size w w1) : UA w1 g o l :=
  ⟨fun i hi => (hb.cell (p := ⟨g, o + i, none⟩) h.blk).trans (h.cell i hi), Nat.lt_of_lt_of_le h.blk hb.size⟩
theorem UA.of_block {w w1 : World} {g o : Nat} {l : List Nat} (h : UA w g o l) (hb : w1.heap[g]? = w.heap[g]?) : UA w1 g o l := by
  have hlt : g < w1.heap.size := by
    rcases Nat.lt_or_ge g w1.heap.size with h1 | h1
    · exact h1
    · rw [Array.getElem?_eq_none h1, Array.getElem?_eq_getElem h.blk] at hb
      cases hb
  exact ⟨fun i hi => (cell_congr hb).trans (h.cell i hi), hlt⟩
/-- A slice that reads as the words l; an empty one may be nil. -/
def SU (w : World) (v : Value) (l : List Nat) : Prop := ∃ p c, v = .slice p l.length c ∧ l.length ≤ c ∧ (l = [] ∨ ∃ g o, p = some ⟨g, o, none⟩ ∧ UA w g o l)
theorem SU.below {w w1 : World} {v : Value} {l : List Nat} (h : SU w v l) (hb : Below w.heap.size w w1) : SU w1 v l := by
  obtain ⟨p, c, h1, h2, h3⟩ := h
  refine ⟨p, c, h1, h2, ?_⟩
  rcases h3 with h3 | ⟨g, o, h4, h5⟩
  · exact Or.inl h3
  · exact Or.inr ⟨g, o, h4, h5.below hb⟩
theorem SU.drew {w : World} {v : Value} {l : List Nat} (h : SU w v l) : SU w.drew v l := h.below (below_drew (Below.refl _ _))
theorem SU.nil (w : World) (p : Option Addr) (c : Nat) : SU w (.slice p 0 c) [] := ⟨p, c, rfl, Nat.zero_le _, Or.inl rfl⟩
theorem SU.len {w : World} {p : Option Addr} {n c : Nat} {l : List Nat} (h : SU w (.slice p n c) l) : n = l.length ∧ l.length ≤ c := by
  obtain ⟨q, d, e, hc, h1⟩ := h
  simp only [Value.slice.injEq] at e
  obtain ⟨rfl, rfl, rfl⟩ := e
  exact ⟨rfl, hc⟩
theorem SU.at_ {w : World} {p : Option Addr} {n c : Nat} {l : List Nat} (h : SU w (.slice p n c) l) : n = 0 ∨ ∃ g o, p = some ⟨g, o, none⟩ ∧ UA w g o l := by
  obtain ⟨q, d, e, hc, h1⟩ := h
  simp only [Value.slice.injEq] at e
  obtain ⟨rfl, rfl, rfl⟩ := e
  rcases h1 with h1 | h1
  · exact Or.inl (by rw [h1]; rfl)
  · exact Or.inr h1
theorem info_u64_all : (Try.prog.info? 24).map (fun i => (i.size, i.bytes)) = some (1, 8) := by kernel_rfl
theorem info_u64_zero : (Try.prog.info? 24).map (fun i => i.zero) = some (some (.int .u64 0)) := by kernel_rfl
theorem info_u64 : ∃ i, Try.prog.info? 24 = some i ∧ i.size = 1 ∧ i.bytes = 8 ∧ i.zero = some (.int .u64 0) := by
  have h1 := info_u64_all
  have h2 := info_u64_zero
  cases h : Try.prog.info? 24 with
  | none => rw [h] at h1; cases h1
  | some i =>
    rw [h] at h1 h2
    simp only [Option.map_some, Option.some.injEq, Prod.mk.injEq] at h1 h2
    exact ⟨i, rfl, h1.1, h1.2, h2⟩
def valu (l : List Nat) : List Value := l.map fun x => .int .u64 ((x : Nat) : Int)
theorem valu_length (l : List Nat) : (valu l).length = l.length := by simp [valu]
theorem valu_append (a b : List Nat) : valu (a ++ b) = valu a ++ valu b := by simp [valu]
/-- The words l in a row of the call's own, at block B or behind it; nil where there is none. -/
def OwU (B : Nat) (w : World) (v : Value) (l : List Nat) : Prop := w.ownsRow B 24 1 v l.length (valu l)
theorem OwU.nil (B : Nat) (w : World) : OwU B w (.slice none 0 0) [] := ⟨rfl, .inl ⟨rfl, rfl⟩⟩
theorem OwU.row {B : Nat} {w : World} {v : Value} {l : List Nat} (h : OwU B w v l) : (v = .slice none 0 0 ∧ l = []) ∨ ∃ g cap, v = .slice (some ⟨g, 0, none⟩) l.length cap ∧ B ≤ g ∧ l.length ≤ cap ∧ cap ≤ maxLen ∧ UA w g 0 l := by
  obtain ⟨hl, hr⟩ := h
  rcases hr with ⟨rfl, h0⟩ | ⟨g, cap, cur, rfl, hB, hg, hnc, hcm, hcs, htake⟩
  · exact Or.inl ⟨rfl, List.eq_nil_of_length_eq_zero h0⟩
  · refine Or.inr ⟨g, cap, rfl, hB, hnc, hcm, fun i hi => ?_, ?_⟩
    · rw [Nat.zero_add, cell_of_row w g i cur _ _ hg, ← Array.getElem?_toList]
      have := List.getElem?_take (l := cur.toList) (i := l.length * 1) (j := i)
      rw [htake, if_pos (by omega)] at this
      rw [← this]
      simp [valu, hi]
    · rcases Nat.lt_or_ge g w.heap.size with h | h
      · exact h
      · rw [Array.getElem?_eq_none h] at hg
        cases hg
theorem OwU.su {B : Nat} {w : World} {v : Value} {l : List Nat} (h : OwU B w v l) : SU w v l := by
  rcases h.row with ⟨rfl, rfl⟩ | ⟨g, cap, rfl, _, hc, _, hb⟩
  · exact SU.nil w none 0
  · exact ⟨_, cap, rfl, hc, Or.inr ⟨g, 0, rfl, hb⟩⟩
theorem OwU.of_block {B : Nat} {w w' : World} {v : Value} {l : List Nat} (h : OwU B w v l) (hb : ∀ g, v.ownBlock = some g → w'.heap[g]? = w.heap[g]?) : OwU B w' v l := by
  obtain ⟨hl, hr⟩ := h
  refine ⟨hl, ?_⟩
  rcases hr with h | ⟨g, cap, cur, rfl, hB, hg, hnc, hcm, hcs, htake⟩
  · exact Or.inl h
  · exact Or.inr ⟨g, cap, cur, rfl, hB, (hb g rfl).trans hg, hnc, hcm, hcs, htake⟩
theorem OwU.lt {B : Nat} {w : World} {v : Value} {l : List Nat} (h : OwU B w v l) (g : Nat) (hg : v.ownBlock = some g) : B ≤ g ∧ g < w.heap.size := by
  rcases h.row with ⟨rfl, _⟩ | ⟨g', cap, rfl, hB, _, _, hb⟩
  · cases hg
  · simp only [Value.ownBlock, Option.some.injEq] at hg
    exact ⟨by omega, by have := hb.blk; omega⟩
theorem OwU.below {B : Nat} {w w' : World} {v : Value} {l : List Nat} (h : OwU B w v l) (hb : Below w.heap.size w w') : OwU B w' v l :=
  h.of_block fun g hg => hb.block g (h.lt g hg).2
theorem OwU.shape {B : Nat} {w : World} {v : Value} {l : List Nat} (h : OwU B w v l) : ∃ p c, v = .slice p l.length c := by
  rcases h.row with ⟨rfl, rfl⟩ | ⟨g, c, rfl, _⟩
  · exact ⟨none, 0, rfl⟩
  · exact ⟨_, c, rfl⟩
/-- Words appended to a row of one's own. -/
theorem append_ua (B : Nat) (w : World) (ty : TypeId) (v : Value) (l m : List Nat) (hv : OwU B w v l) (g o c : Nat) (hx : UA w g o m) (hlm : l.length + m.length ≤ 1000000) (hB : B ≤ w.heap.size) :
    ∃ v' w', (Builtin.append_ #[31, 31] ty #[v, .slice (some ⟨g, o, none⟩) m.length c]).run Try.prog w = .ok v' w' ∧ OwU B w' v' (l ++ m) ∧ w.grownBy w' v.ownBlock ∧ (v'.ownBlock = v.ownBlock ∨ v'.ownBlock = some w.heap.size) := by
  obtain ⟨i, hi, hs, hy, hz⟩ := info_u64
  obtain ⟨v', w', hr, h2, h3, h4, h5⟩ := run_append_own_at (P := Try.prog) w B 31 ty 24 i (.int .u64 0) 1 8 Try.underlying31 hi hz hs hy rfl (by decide) v l.length (valu l) hv ⟨g, o, none⟩ m.length c (valu m) (by rw [valu_length, Nat.mul_one])
    (fun j u hu => by
      have hj : j < m.length := by
        have := (List.getElem?_eq_some_iff.1 hu).1
        rwa [valu_length] at this
      unfold valu at hu
      rw [List.getElem?_map, List.getElem?_eq_getElem hj] at hu
      rw [Addr.add_lit, hx.cell j hj]
      exact hu) (fun u hu => by
      obtain ⟨x, _, rfl⟩ := List.mem_map.1 hu
      rfl) (by simp only [maxLen]; omega) (by omega) hB
  refine ⟨v', w', hr, ?_, h3, h5⟩
  unfold OwU
  rw [List.length_append, valu_append]
  exact h2
theorem run_buildSlice_word (w : World) (x : Nat) : (Instr.buildSlice 31 1 #[(0, .int .u64 (x : Int))]).run Try.prog w = .ok (.slice (some ⟨w.heap.size, 0, none⟩) 1 1) (w.alloc (.cells #[.int .u64 (x : Int)] 24)) := by
  obtain ⟨i, hi, hs, _, hz⟩ := info_u64
  simp [Instr.buildSlice, run_underlying Try.underlying31, sizeOf, typeInfo, hi, hs, newRow, Instr.fill, Value.cells]
  refine congrArg (fun c => w.alloc (.cells c 24)) (Array.ext (by simp) (fun j h1 h2 => ?_))
  have : j = 0 := by
    simp at h2
    exact h2
  subst this
  simp
theorem wp_build_word {o : Oper} {a : Act} {w : World} {K : Act → World → Prop} {Q : Exit → Act → World → Prop} (x : Operand) (ho : o.op = .buildSlice 31 1 #[(0, x)]) (n : Nat) (hx : a.eval x = .int .u64 (n : Int))
    (h : K (a.put o.dst (.slice (some ⟨w.heap.size, 0, none⟩) 1 1)) (w.alloc (.cells #[.int .u64 (n : Int)] 24))) : o.wp Try.prog a w K Q := by
  unfold Oper.wp execOp
  simp only [ho, Sem.run_bind, List.map_toArray, List.map_cons, List.map_nil, hx, run_buildSlice_word, Result.andThen_ok, Sem.run_pure]
  exact h
/-- One word behind a row of one's own. -/
theorem append_word (B : Nat) (w0 w : World) (ty : TypeId) (v : Value) (l : List Nat) (x : Nat) (O : OwU B w v l) (hl : l.length ≤ 100000) (b : Below B w0 w) (hB : B ≤ w.heap.size) :
    ∃ v' w', (Builtin.append_ #[31, 31] ty #[v, .slice (some ⟨w.heap.size, 0, none⟩) 1 1]).run Try.prog (w.alloc (.cells #[.int .u64 ((x : Nat) : Int)] 24)) = .ok v' w' ∧ OwU B w' v' (l ++ [x]) ∧ Below B w0 w' := by
  have b1 := (Below.refl w.heap.size w).alloc (Nat.le_refl _) (.cells #[.int .u64 ((x : Nat) : Int)] 24)
  have hx : UA (w.alloc (.cells #[.int .u64 ((x : Nat) : Int)] 24)) w.heap.size 0 [x] := ⟨fun i hi => by
    have hi0 : i = 0 := by simp at hi; exact hi
    subst hi0
    exact Blk.cell (Blk.new w 24 #[.int .u64 ((x : Nat) : Int)]) 0, (Blk.new w 24 #[.int .u64 ((x : Nat) : Int)]).lt⟩
  have O1 := O.below b1
  obtain ⟨v', w', h1, h2, h3, h4⟩ := append_ua B _ ty v l [x] O1 w.heap.size 0 1 hx (by simp; omega) (by have := b1.size; omega)
  exact ⟨v', w', h1, h2, below_grown' (b.trans (b1.mono hB)) h3 (fun k hk => (O1.lt k hk).1) (by have := b1.size; omega)⟩
/-- A slice that reads as the words l, in a row at block B or behind it. -/
def SUB (B : Nat) (w : World) (v : Value) (l : List Nat) : Prop := ∃ p c, v = .slice p l.length c ∧ l.length ≤ c ∧ (l = [] ∨ ∃ g o, p = some ⟨g, o, none⟩ ∧ B ≤ g ∧ UA w g o l)
theorem SUB.nil (B : Nat) (w : World) (p : Option Addr) (c : Nat) : SUB B w (.slice p 0 c) [] := ⟨p, c, rfl, Nat.zero_le _, Or.inl rfl⟩
theorem OwU.sub {B : Nat} {w : World} {v : Value} {l : List Nat} (h : OwU B w v l) : SUB B w v l := by
  rcases h.row with ⟨rfl, rfl⟩ | ⟨g, cap, rfl, hB, hc, _, hb⟩
  · exact SUB.nil B w none 0
  · exact ⟨_, cap, rfl, hc, Or.inr ⟨g, 0, rfl, hB, hb⟩⟩
theorem SUB.keep {B : Nat} {w w' : World} {v : Value} {l : List Nat} (h : SUB B w v l) (k : ∀ g, B ≤ g → g < w.heap.size → w'.heap[g]? = w.heap[g]?) : SUB B w' v l := by
  obtain ⟨p, c, e, hc, h1⟩ := h
  refine ⟨p, c, e, hc, ?_⟩
  rcases h1 with h1 | ⟨g, o, e, hB, h1⟩
  · exact Or.inl h1
  · exact Or.inr ⟨g, o, e, hB, h1.of_block (k g hB h1.blk)⟩
theorem SUB.below {B : Nat} {w w' : World} {v : Value} {l : List Nat} (h : SUB B w v l) (hb : Below w.heap.size w w') : SUB B w' v l := h.keep fun g _ hg => hb.block g hg
theorem SUB.grown {B x : Nat} {w w' : World} {v : Value} {l : List Nat} (h : SUB B w v l) (hb : w.grownBy w' (some x)) (hx : x < B) : SUB B w' v l := h.keep fun g hB hg => hb.block g hg (fun e => by simp only [Option.some.injEq] at e; omega)
theorem SUB.shape {B : Nat} {w : World} {v : Value} {l : List Nat} (h : SUB B w v l) : ∃ p c, v = .slice p l.length c ∧ l.length ≤ c := by
  obtain ⟨p, c, e, hc, _⟩ := h
  exact ⟨p, c, e, hc⟩
theorem SUB.at_ {B : Nat} {w : World} {p : Option Addr} {n c : Nat} {l : List Nat} (h : SUB B w (.slice p n c) l) (hn : 0 < l.length) : ∃ g o, p = some ⟨g, o, none⟩ ∧ B ≤ g ∧ UA w g o l := by
  obtain ⟨q, d, e, hc, h1⟩ := h
  simp only [Value.slice.injEq] at e
  obtain ⟨rfl, rfl, rfl⟩ := e
  rcases h1 with h1 | h1
  · rw [h1] at hn
    exact absurd hn (Nat.lt_irrefl 0)
  · exact h1
theorem SUB.len {B : Nat} {w : World} {p : Option Addr} {n c : Nat} {l : List Nat} (h : SUB B w (.slice p n c) l) : n = l.length ∧ l.length ≤ c := by
  obtain ⟨q, d, e, hc, h1⟩ := h
  simp only [Value.slice.injEq] at e
  obtain ⟨rfl, rfl, rfl⟩ := e
  exact ⟨rfl, hc⟩
theorem SUB.mono {B B' : Nat} {w : World} {v : Value} {l : List Nat} (h : SUB B w v l) (hB : B' ≤ B) : SUB B' w v l := by
  obtain ⟨p, c, e, hc, h1⟩ := h
  refine ⟨p, c, e, hc, ?_⟩
  rcases h1 with h1 | ⟨g, o, e, h2, h1⟩
  · exact Or.inl h1
  · exact Or.inr ⟨g, o, e, Nat.le_trans hB h2, h1⟩
theorem UA.get {w : World} {g o : Nat} {l : List Nat} (h : UA w g o l) (i : Nat) (hi : i < l.length) : w.cell? ⟨g, o + i, none⟩ = some (.int .u64 ((l.getD i 0 : Nat) : Int)) := by
  rw [h.cell i hi, getD_lt' _ _ _ hi]
end Go.Proofs.Ytnahjmladhbmpaa
