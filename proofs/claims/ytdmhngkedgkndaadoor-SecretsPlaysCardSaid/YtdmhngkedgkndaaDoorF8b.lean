/- Calls handed in, opened (printed by gen15/fn.py). -/
import Derived.Test.YtdmhngkedgkndaaDoorLd0KTd
import Derived.Test.YtdmhngkedgkndaaDoorF7c
namespace Go.Proofs.YtdmhngkedgkndaaDoor
open Go.ChangeShapes Go.WideShapes Go.ChangeAt Go.RowKit

theorem cells_act : Tryd.prog.cellsOf 33 = 3 := by kernel_rfl
section
variable {H : Type} {enc : TypeId × Value → H} {W : World}
theorem act_f {fuel : Nat} {cs : List Value} {x : DataW H × List MemPlace} (hf : DataW.trod enc Tryd.prog W 0 (fun _ => true) true fuel 33 cs = some x) :
    ∃ f vb vc, cs = acL f vb vc ∧ f.Ok ∧ AcD W f vb vc := by
  obtain ⟨xs, n, _, _, hlen, hn, hel⟩ := DataW.trod_struct Tryd.underlying33 hf
  rw [cells_act] at hlen
  match cs, hlen with
  | [c0, c1, c2], _ =>
    match xs, hn with
    | [y0, y1, y2], _ =>
      have t0 := hel 0 _ rfl
      have t1 := hel 1 _ rfl
      have t2 := hel 2 _ rfl
      simp [cells_u8, cells_bytes] at t0 t1 t2
      obtain ⟨n0, e0, _, w0⟩ := DataW.trod_int Tryd.underlying5 t0
      obtain ⟨p1, q1, b, e1, s1, b1⟩ := bytes_f t1
      obtain ⟨p2, q2, c, e2, s2, b2⟩ := bytes_f t2
      simp only [List.cons.injEq, and_true] at e0 e1 e2
      have h0 := wf_u8 w0
      obtain ⟨k0, hk0, rfl⟩ : ∃ k : Nat, k < 256 ∧ n0 = (k : Int) := ⟨n0.toNat, by omega, by omega⟩
      subst e0 e1 e2
      exact ⟨⟨k0, b, c⟩, _, _, rfl, ⟨hk0, b1, b2⟩, ⟨s1, s2⟩⟩
instance : Inhabited AcF := ⟨⟨0, [], []⟩⟩
def acL3 (x : AcF × Value × Value) : List Value := acL x.1 x.2.1 x.2.2
theorem open_acts {r : Reach} {base : Nat} {v : Value} {d : DataW H} {ps : List MemPlace} (hval : Value.okWide Tryd.prog W r base 23 v) (hd : DataW.Trod enc Tryd.prog W 0 (fun _ => true) true 23 v d ps) :
    ∃ p n c l, v = .slice p n c ∧ AcS W (.slice p n c) l ∧ n ≤ 9223372036854775807 ∧ ∀ f ∈ l, f.Ok := by
  obtain ⟨a1, len, cap, rfl⟩ := okWide_slice Tryd.underlying23 hval
  obtain ⟨fuel, hf⟩ := hd
  rcases Deep.open_slice Tryd.underlying23 hf with ⟨hcs, hx⟩ | ⟨a, len', cap', m, n, D, Pl, hcs, hba, hl, hm, hmm, hx, hel⟩
  · simp [Value.cells] at hcs
    obtain ⟨rfl, rfl, rfl⟩ := hcs
    exact ⟨none, 0, 0, [], rfl, AcS.nil _ _ _, Nat.zero_le _, fun x hx => by cases hx⟩
  · simp [Value.cells] at hcs
    obtain ⟨rfl, rfl, rfl⟩ := hcs
    simp only [if_true] at hmm
    rw [cells_act] at hel
    have each : ∀ i, i < len → ∃ x : AcF × Value × Value, (x.1.Ok ∧ AcD W x.1 x.2.1 x.2.2) ∧ ∀ j v, (acL3 x)[j]? = some v → W.cell? (a.add (i * 3 + j)) = some v := fun i hi => by
      obtain ⟨cs', h1, h2⟩ := hel i (by omega)
      obtain ⟨_, h3, h4⟩ := World.cells?_some h1
      obtain ⟨f, vd, va, h5, h6, h7⟩ := act_f h2
      refine ⟨(f, vd, va), ⟨h6, h7⟩, fun j v hv => ?_⟩
      have hj : j < 3 := (List.getElem?_eq_some_iff.1 hv).1
      have := h4 j (by omega)
      rw [← Deep.add_add, this, h5]
      exact hv
    obtain ⟨Fq, hF⟩ := Deep.choose_lt (α := AcF × Value × Value) each
    obtain ⟨l, hL⟩ : ∃ l : List AcF, l = (List.range len).map fun i => (Fq i).1 := ⟨_, rfl⟩
    have ll : l.length = len := by rw [hL]; simp
    have lg : ∀ i (h : i < l.length), l[i] = (Fq i).1 := fun i h => by simp only [hL, List.getElem_map, List.getElem_range]
    refine ⟨some a, len, cap, l, rfl, ⟨some a, cap, by rw [ll], by rw [ll]; exact hl, ?_⟩, by simp only [maxLen] at hm; omega, fun f hq => ?_⟩
    · by_cases h0 : len = 0
      · exact Or.inl (List.eq_nil_of_length_eq_zero (by omega))
      · right
        obtain ⟨b, off, spot⟩ := a
        have hc0 := (hF 0 (by omega)).2 0 _ rfl
        have hspot : spot = none := by simpa [Addr.add] using World.cell?_spot hc0
        subst hspot
        rw [Addr.add_lit] at hc0
        refine ⟨b, off, rfl, fun i hi => ⟨(Fq i).2.1, (Fq i).2.2, by rw [lg i hi]; exact (hF i (by omega)).1.2, fun j v hv => ?_⟩, World.block_lt_of_cell? _ _ hc0⟩
        rw [lg i hi] at hv
        have := (hF i (by omega)).2 j v hv
        rw [Addr.add_lit, ← Nat.add_assoc] at this
        exact this
    · obtain ⟨i, hi, rfl⟩ := List.getElem_of_mem hq
      rw [lg i hi]
      exact (hF i (by omega)).1.1
end
end Go.Proofs.YtdmhngkedgkndaaDoor
