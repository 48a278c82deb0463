/- Slices of keys, slices of bytes, as they come in; a key in the midst of a block. -/
import Derived.Test.YtknmmjnkafmoaaaLr
import Derived.Test.YtknmmjnkafmoaaaLl
import Derived.Deep.Slices
import Derived.Deep.MidRow
namespace Go.Proofs.Ytknmmjnkafmoaaa
open Go.ChangeShapes Go.WideShapes Go.ChangeAt Go.RowKit

/-- n bytes in block gb, from cell o on. -/
structure By (w : World) (gb o n : Nat) (f : Nat → Nat) : Prop where
  cell : ∀ i, i < n → w.cell? ⟨gb, o + i, none⟩ = some (.int .u8 ((f i : Nat) : Int))
  lt : ∀ i, f i < 256
  blk : gb < w.heap.size
theorem By.below {w w1 : World} {gb o n : Nat} {f : Nat → Nat} (h : By w gb o n f) (hb : Below w.heap.size w w1) : By w1 gb o n f :=
  ⟨fun i hi => (hb.cell (p := ⟨gb, o + i, none⟩) h.blk).trans (h.cell i hi), h.lt, Nat.lt_of_lt_of_le h.blk hb.size⟩
/-- A slice of n bytes, wherever they lie; an empty one may be nil. -/
def Bs (w : World) (v : Value) (n : Nat) (f : Nat → Nat) : Prop := ∃ p c, v = .slice p n c ∧ n ≤ c ∧ c ≤ maxLen ∧ (∀ i, f i < 256) ∧ (n = 0 ∨ ∃ gb o, p = some ⟨gb, o, none⟩ ∧ By w gb o n f)
/-- n keys, one behind the other, from cell o of block g on. -/
structure Ky (w : World) (g o n : Nat) (l : Nat → List Int) (f : Nat → Nat → Nat) : Prop where
  row : ∀ i, i < n → w.rangeAt g (o + i * 32) (Iv .u8 (l i)).toList
  key : ∀ i, i < n → Bytes32 (l i) (f i)
  blk : g < w.heap.size
theorem rangeAt_below {B : Nat} {w w1 : World} {g o : Nat} {cs : List Value} (h : w.rangeAt g o cs) (hb : Below B w w1) (hg : g < B) : w1.rangeAt g o cs := fun j v hv => (hb.cell (p := ⟨g, o + j, none⟩) hg).trans (h j v hv)
theorem Ky.below {B : Nat} {w w1 : World} {g o n : Nat} {l : Nat → List Int} {f : Nat → Nat → Nat} (h : Ky w g o n l f) (hb : Below B w w1) (hg : g < B) : Ky w1 g o n l f :=
  ⟨fun i hi => rangeAt_below (h.row i hi) hb hg, h.key, Nat.lt_of_lt_of_le h.blk (by
    have := hb.size
    rcases Nat.lt_or_ge w1.heap.size w.heap.size with h1 | h1
    · exfalso
      have h2 := hb.block g hg
      have h3 := h.blk
      have : w1.heap[g]? = some w.heap[g] := by rw [h2]; exact Array.getElem?_eq_getElem h3
      omega
    · exact h1)⟩
def Ks (w : World) (v : Value) (n : Nat) (l : Nat → List Int) (f : Nat → Nat → Nat) : Prop := ∃ p c, v = .slice p n c ∧ n ≤ c ∧ c ≤ maxLen ∧ (n = 0 ∨ ∃ g o, p = some ⟨g, o, none⟩ ∧ Ky w g o n l f)

section
variable {H : Type} {enc : TypeId × Value → H}
theorem open_bytes {W : World} {r : Reach} {base : Nat} {v : Value} {d : DataW H} {ps : List MemPlace} (hval : Value.okWide Try.prog W r base 43 v) (hd : DataW.Trod enc Try.prog W 0 (fun _ => true) true 43 v d ps) :
    ∃ p n c f, v = .slice p n c ∧ Bs W (.slice p n c) n f := by
  obtain ⟨a1, len, cap, rfl⟩ := okWide_slice Try.underlying43 hval
  obtain ⟨fuel, hf⟩ := hd
  rcases open_ints Try.underlying43 Try.underlying5 cells_u8 hf with ⟨hcs, hx⟩ | ⟨a, len', cap', zs, hcs, hba, hl, hm, hz, hx, hcell, hwz⟩
  · simp [Value.cells] at hcs
    obtain ⟨rfl, rfl, rfl⟩ := hcs
    exact ⟨none, 0, 0, fun _ => 0, rfl, ⟨none, 0, rfl, Nat.le_refl _, Nat.zero_le _, fun _ => Nat.zero_lt_succ _, Or.inl rfl⟩⟩
  · simp [Value.cells] at hcs
    obtain ⟨rfl, rfl, rfl⟩ := hcs
    simp only [if_true] at hz
    have hrange : ∀ i, i < zs.length → 0 ≤ zs.getD i 0 ∧ zs.getD i 0 ≤ 255 := fun i hi => by
      have : zs.getD i 0 = zs[i] := by simp [List.getD, hi]
      rw [this]
      exact wf_u8 (hwz _ (List.getElem_mem hi))
    refine ⟨some a, len, cap, fun i => (zs.getD i 0).toNat % 256, rfl, ⟨some a, cap, rfl, hl, hm, fun i => Nat.mod_lt _ (by decide), ?_⟩⟩
    by_cases h0 : len = 0
    · exact Or.inl h0
    · right
      obtain ⟨b, off, spot⟩ := a
      have hspot : spot = none := by simpa [Addr.add] using World.cell?_spot (hcell 0 (by omega))
      subst hspot
      have hc : ∀ i, i < zs.length → W.cell? ⟨b, off + i, none⟩ = some (.int .u8 (zs.getD i 0)) := fun i hi => by
        have := hcell i hi
        rw [Addr.add_lit] at this
        exact this
      refine ⟨b, off, rfl, fun i hi => ?_, fun i => Nat.mod_lt _ (by decide), World.block_lt_of_cell? _ _ (hc 0 (by omega))⟩
      have hr := hrange i (by omega)
      rw [hc i (by omega)]
      congr 2
      omega
/-- 32 cells that read as a key. -/
theorem open_cells {w : World} {base : Nat} {sp : Nat → Bool} {held : Bool} {fuel : Nat} {cs : List Value} {x : DataW H × List MemPlace} (hsz : cs.length = 32) (hf : DataW.trod enc Try.prog w base sp held fuel 23 cs = some x) :
    ∃ l f, cs = (Iv .u8 l).toList ∧ Bytes32 l f := by
  obtain ⟨d, ps⟩ := x
  obtain ⟨xs, m, rfl, hx, hlen, hn, hel⟩ := DataW.trod_array Try.underlying23 hf
  have hel2 : ∀ i, i < 32 → ∃ n, cs[i]? = some (.int .u8 n) ∧ (Lit.int .u8 n).wf = true := by
    intro i hi
    have h0 := hel i hi
    rw [cells_u8, Nat.mul_one] at h0
    cases hxi : xs[i]? with
    | none => rw [List.getElem?_eq_none_iff] at hxi; omega
    | some y =>
      rw [hxi] at h0
      obtain ⟨n, hc, rfl, hw⟩ := DataW.trod_int Try.underlying5 h0
      refine ⟨n, ?_, hw⟩
      have hi2 : i < cs.length := by omega
      have : ((cs.drop i).take 1) = [.int .u8 n] := hc
      rw [List.drop_eq_getElem_cons hi2, List.take_succ_cons, List.take_zero] at this
      rw [List.getElem?_eq_getElem hi2]
      exact congrArg some (List.cons.inj this).1
  obtain ⟨l, hl⟩ : ∃ l : List Int, l = (List.range 32).map fun i => match cs[i]? with | some (.int .u8 n) => n | _ => 0 := ⟨_, rfl⟩
  have hlen32 : l.length = 32 := by simp [hl]
  have hget : ∀ i (h : i < 32), cs[i]? = some (.int .u8 (l.getD i 0)) ∧ (Lit.int .u8 (l.getD i 0)).wf = true := by
    intro i h
    obtain ⟨n, h1, h3⟩ := hel2 i h
    have : l.getD i 0 = n := by
      rw [hl]
      simp [h, h1]
    rw [this]
    exact ⟨h1, h3⟩
  have hcs : cs = (Iv .u8 l).toList := by
    apply List.ext_getElem?
    intro i
    by_cases h : i < 32
    · rw [(hget i h).1, Array.getElem?_toList, Iv_get _ _ _ (by omega)]
    · rw [List.getElem?_eq_none (by omega), Array.getElem?_toList, Array.getElem?_eq_none (by rw [Iv_size]; omega)]
  have hb : ∀ i, 0 ≤ l.getD i 0 ∧ l.getD i 0 ≤ 255 := by
    intro i
    by_cases h : i < 32
    · exact wf_u8 (hget i h).2
    · have : l.getD i 0 = 0 := by simp [List.getD, show l.length ≤ i by omega]
      omega
  refine ⟨l, fun i => (l.getD i 0).toNat, hcs, ⟨hlen32, fun i h => ?_, fun i => ?_⟩⟩
  · have := hb i
    omega
  · have := hb i
    omega
theorem open_keys {W : World} {r : Reach} {base : Nat} {v : Value} {d : DataW H} {ps : List MemPlace} (hval : Value.okWide Try.prog W r base 42 v) (hd : DataW.Trod enc Try.prog W 0 (fun _ => true) true 42 v d ps) :
    ∃ p n c l f, v = .slice p n c ∧ Ks W (.slice p n c) n l f := by
  obtain ⟨a1, len, cap, rfl⟩ := okWide_slice Try.underlying42 hval
  obtain ⟨fuel, hf⟩ := hd
  rcases Deep.open_slice Try.underlying42 hf with ⟨hcs, hx⟩ | ⟨a, len', cap', m, n, D, Pl, hcs, hba, hl, hm, hmm, hx, hel⟩
  · simp [Value.cells] at hcs
    obtain ⟨rfl, rfl, rfl⟩ := hcs
    exact ⟨none, 0, 0, fun _ => [], fun _ _ => 0, rfl, ⟨none, 0, rfl, Nat.le_refl _, Nat.zero_le _, Or.inl rfl⟩⟩
  · simp [Value.cells] at hcs
    obtain ⟨rfl, rfl, rfl⟩ := hcs
    simp only [if_true] at hmm
    rw [cells_key] at hel
    have each : ∀ i, i < len → ∃ lf : List Int × (Nat → Nat), Bytes32 lf.1 lf.2 ∧ ∀ j, j < 32 → W.cell? (a.add (i * 32 + j)) = (Iv .u8 lf.1)[j]? := fun i hi => by
      obtain ⟨cs', h1, h2⟩ := hel i (by omega)
      obtain ⟨_, h3, h4⟩ := World.cells?_some h1
      obtain ⟨l, f, h5, h6⟩ := open_cells h3 h2
      refine ⟨(l, f), h6, fun j hj => ?_⟩
      have := h4 j (by omega)
      rw [← Deep.add_add, this, h5, Array.getElem?_toList]
    obtain ⟨F, hF⟩ := Deep.choose_lt (α := List Int × (Nat → Nat)) each
    refine ⟨some a, len, cap, fun i => (F i).1, fun i => (F i).2, rfl, ⟨some a, cap, rfl, hl, hm, ?_⟩⟩
    by_cases h0 : len = 0
    · exact Or.inl h0
    · right
      obtain ⟨b, off, spot⟩ := a
      have hc0 := (hF 0 (by omega)).2 0 (by decide)
      rw [Iv_get _ _ _ (by rw [(hF 0 (by omega)).1.len]; decide)] at hc0
      have hspot : spot = none := by simpa [Addr.add] using World.cell?_spot hc0
      subst hspot
      rw [Addr.add_lit] at hc0
      refine ⟨b, off, rfl, fun i hi j v hv => ?_, fun i hi => (hF i hi).1, World.block_lt_of_cell? _ _ hc0⟩
      have hj : j < 32 := by
        have := (List.getElem?_eq_some_iff.1 hv).1
        rw [Array.length_toList, Iv_size, (hF i hi).1.len] at this
        exact this
      have := (hF i hi).2 j hj
      rw [Addr.add_lit, ← Nat.add_assoc] at this
      rw [this, ← Array.getElem?_toList]
      exact hv
end
end Go.Proofs.Ytknmmjnkafmoaaa
