/- Acts handed in, opened. -/
import Derived.Test.YtnahjmladhbmpaaLd
import Derived.Test.YtnahjmladhbmpaaLr
import Derived.Test.YtnahjmladhbmpaaSr
import Derived.Deep.Slices
namespace Go.Proofs.Ytnahjmladhbmpaa
open Go.ChangeShapes Go.WideShapes Go.ChangeAt Go.RowKit

theorem cells_act : Try.prog.cellsOf 35 = 2 := by kernel_rfl
theorem cells_w : Try.prog.cellsOf 24 = 1 := by kernel_rfl
theorem cells_bl : Try.prog.cellsOf 4 = 1 := by kernel_rfl
theorem nat_u64 {n : Int} (h : (Lit.int .u64 n).wf = true) : ∃ k : Nat, n = ((k : Nat) : Int) ∧ k < 18446744073709551616 := by
  simp [Lit.wf, IntKind.min, IntKind.max, IntKind.signed, IntKind.bits] at h
  exact ⟨n.toNat, by omega, by omega⟩
def acL (x : Nat × Bool) : List Value := [.int .u64 ((x.1 : Nat) : Int), .bool x.2]
section
variable {H : Type} {enc : TypeId × Value → H} {W : World}
theorem act_f {fuel : Nat} {cs : List Value} {x : DataW H × List MemPlace} (hf : DataW.trod enc Try.prog W 0 (fun _ => true) true fuel 35 cs = some x) :
    ∃ q : Nat × Bool, cs = acL q ∧ q.1 < 18446744073709551616 := by
  obtain ⟨xs, n, _, _, hlen, hn, hel⟩ := DataW.trod_struct Try.underlying35 hf
  rw [cells_act] at hlen
  match cs, hlen with
  | [c0, c1], _ =>
    match xs, hn with
    | [y0, y1], _ =>
      have t0 := hel 0 _ rfl
      have t1 := hel 1 _ rfl
      simp [cells_w, cells_bl] at t0 t1
      obtain ⟨n0, e0, _, w0⟩ := DataW.trod_int Try.underlying24 t0
      obtain ⟨b, e1, _⟩ := DataW.trod_bool Try.underlying4 t1
      simp only [List.cons.injEq, and_true] at e0 e1
      obtain ⟨k0, rfl, h0⟩ := nat_u64 w0
      subst e0 e1
      exact ⟨(k0, b), rfl, h0⟩
theorem open_acts {r : Reach} {base : Nat} {v : Value} {d : DataW H} {ps : List MemPlace} (hval : Value.okWide Try.prog W r base 22 v) (hd : DataW.Trod enc Try.prog W 0 (fun _ => true) true 22 v d ps) :
    ∃ p c l, v = .slice p (List.length l) c ∧ SC W (.slice p l.length c) l ∧ l.length ≤ maxLen ∧ ∀ x ∈ l, x.1 < 18446744073709551616 := by
  obtain ⟨a1, len, cap, rfl⟩ := okWide_slice Try.underlying22 hval
  obtain ⟨fuel, hf⟩ := hd
  rcases Deep.open_slice Try.underlying22 hf with ⟨hcs, hx⟩ | ⟨a, len', cap', m, n, D, Pl, hcs, hba, hl, hm, hmm, hx, hel⟩
  · simp [Value.cells] at hcs
    obtain ⟨rfl, rfl, rfl⟩ := hcs
    exact ⟨none, 0, [], rfl, ⟨_, 0, rfl, Nat.le_refl _, Or.inl rfl⟩, Nat.zero_le _, fun x hx => by cases hx⟩
  · simp [Value.cells] at hcs
    obtain ⟨rfl, rfl, rfl⟩ := hcs
    simp only [if_true] at hmm
    rw [cells_act] at hel
    have each : ∀ i, i < len → ∃ x : Nat × Bool, x.1 < 18446744073709551616 ∧ ∀ j v, (acL x)[j]? = some v → W.cell? (a.add (i * 2 + j)) = some v := fun i hi => by
      obtain ⟨cs', h1, h2⟩ := hel i (by omega)
      obtain ⟨_, h3, h4⟩ := World.cells?_some h1
      obtain ⟨q, h5, h6⟩ := act_f h2
      refine ⟨q, h6, fun j v hv => ?_⟩
      have hj : j < 2 := (List.getElem?_eq_some_iff.1 hv).1
      have := h4 j (by omega)
      rw [← Deep.add_add, this, h5]
      exact hv
    obtain ⟨Fq, hF⟩ := Deep.choose_lt (α := Nat × Bool) each
    obtain ⟨l, hL⟩ : ∃ l : List (Nat × Bool), l = (List.range len).map fun i => Fq i := ⟨_, rfl⟩
    have ll : l.length = len := by rw [hL]; simp
    have lg : ∀ i (h : i < l.length), l.getD i (0, false) = Fq i := fun i h => by
      rw [List.getD_eq_getElem?_getD, List.getElem?_eq_getElem h]
      simp only [hL, List.getElem_map, List.getElem_range, Option.getD_some]
    refine ⟨some a, cap, l, by rw [ll], ⟨some a, cap, rfl, by rw [ll]; exact hl, ?_⟩, by omega, fun x hq => ?_⟩
    · by_cases h0 : len = 0
      · exact Or.inl (List.eq_nil_of_length_eq_zero (by omega))
      · right
        obtain ⟨b, off, spot⟩ := a
        have hc0 := (hF 0 (by omega)).2 0 _ rfl
        have hspot : spot = none := by simpa [Addr.add] using World.cell?_spot hc0
        subst hspot
        rw [Addr.add_lit] at hc0
        refine ⟨b, off, rfl, fun i hi => ?_, fun i hi => ?_, World.block_lt_of_cell? _ _ hc0⟩
        · have := (hF i (by omega)).2 0 _ rfl
          rw [Addr.add_lit, Nat.add_zero] at this
          rw [lg i hi]
          exact this
        · have := (hF i (by omega)).2 1 _ rfl
          rw [Addr.add_lit, ← Nat.add_assoc] at this
          rw [lg i hi]
          exact this
    · obtain ⟨i, hi, rfl⟩ := List.getElem_of_mem hq
      have := lg i hi
      rw [List.getD_eq_getElem?_getD, List.getElem?_eq_getElem hi, Option.getD_some] at this
      rw [this]
      exact (hF i (by omega)).1
end
end Go.Proofs.Ytnahjmladhbmpaa
