/- Heads and eight bytes, handed in, opened. -/
import Derived.Test.YtfhiflakglhneaaSe
import Derived.Test.YtfhiflakglhneaaLd
import Derived.Test.YtfhiflakglhneaaLr
import Derived.Deep.Slices
namespace Go.Proofs.Ytfhiflakglhneaa
open Go.ChangeShapes Go.WideShapes Go.ChangeAt Go.RowKit

theorem cells_bytes : Try.prog.cellsOf 29 = 1 := by kernel_rfl
theorem cells_int : Try.prog.cellsOf 3 = 1 := by kernel_rfl
theorem cells_hd : Try.prog.cellsOf 31 = 3 := by kernel_rfl
theorem cells_b8 : Try.prog.cellsOf 39 = 8 := by kernel_rfl
theorem int_ok {n : Int} (h : (Lit.int .i64 n).wf = true) : i64_ok n := by
  simp [Lit.wf, IntKind.min, IntKind.max, IntKind.signed, IntKind.bits] at h
  unfold i64_ok
  omega
theorem int_wraps {n : Int} (h : (Lit.int .i64 n).wf = true) : IntKind.i64.wrap n = n := by
  have := int_ok h
  unfold i64_ok at this
  rw [IntKind.wrap_i64]
  omega
section
variable {H : Type} {enc : TypeId × Value → H} {W : World}
/-- Five parameters. -/
theorem trodAll_five {P : Program} {w : World} {base : Nat} {spare : Nat → Bool} {held : Bool} {t0 t1 t2 t3 t4 : TypeId} {args : Array Value} {ds : List (DataW H)} {ps : List MemPlace} (h : DataW.TrodAll enc P w base spare held [t0, t1, t2, t3, t4] args.toList ds ps) :
    ∃ v0 v1 v2 v3 v4 d0 d1 d2 d3 d4 p0 p1 p2 p3 p4, args = #[v0, v1, v2, v3, v4] ∧ ds = [d0, d1, d2, d3, d4] ∧ ps = p0 ++ (p1 ++ (p2 ++ (p3 ++ p4))) ∧ DataW.Trod enc P w base spare held t0 v0 d0 p0 ∧ DataW.Trod enc P w base spare held t1 v1 d1 p1 ∧ DataW.Trod enc P w base spare held t2 v2 d2 p2 ∧ DataW.Trod enc P w base spare held t3 v3 d3 p3 ∧ DataW.Trod enc P w base spare held t4 v4 d4 p4 := by
  obtain ⟨v0, r0, d0, e0, p0, q0, hargs, rfl, rfl, h0, h⟩ := trodAll_cons h
  obtain ⟨v1, r1, d1, e1, p1, q1, rfl, rfl, rfl, h1, h⟩ := trodAll_cons h
  obtain ⟨v2, r2, d2, e2, p2, q2, rfl, rfl, rfl, h2, h⟩ := trodAll_cons h
  obtain ⟨v3, r3, d3, e3, p3, q3, rfl, rfl, rfl, h3, h⟩ := trodAll_cons h
  obtain ⟨v4, r4, d4, e4, p4, q4, rfl, rfl, rfl, h4, h⟩ := trodAll_cons h
  obtain ⟨rfl, rfl, rfl⟩ := trodAll_nil h
  exact ⟨v0, v1, v2, v3, v4, d0, d1, d2, d3, d4, p0, p1, p2, p3, p4, by cases args; simp_all, rfl, by simp, h0, h1, h2, h3, h4⟩
/-- Seven parameters. -/
theorem trodAll_seven {P : Program} {w : World} {base : Nat} {spare : Nat → Bool} {held : Bool} {t0 t1 t2 t3 t4 t5 t6 : TypeId} {args : Array Value} {ds : List (DataW H)} {ps : List MemPlace} (h : DataW.TrodAll enc P w base spare held [t0, t1, t2, t3, t4, t5, t6] args.toList ds ps) :
    ∃ v0 v1 v2 v3 v4 v5 v6 d0 d1 d2 d3 d4 d5 d6 p0 p1 p2 p3 p4 p5 p6, args = #[v0, v1, v2, v3, v4, v5, v6] ∧ ds = [d0, d1, d2, d3, d4, d5, d6] ∧ ps = p0 ++ (p1 ++ (p2 ++ (p3 ++ (p4 ++ (p5 ++ p6))))) ∧ DataW.Trod enc P w base spare held t0 v0 d0 p0 ∧ DataW.Trod enc P w base spare held t1 v1 d1 p1 ∧ DataW.Trod enc P w base spare held t2 v2 d2 p2 ∧ DataW.Trod enc P w base spare held t3 v3 d3 p3 ∧ DataW.Trod enc P w base spare held t4 v4 d4 p4 ∧ DataW.Trod enc P w base spare held t5 v5 d5 p5 ∧ DataW.Trod enc P w base spare held t6 v6 d6 p6 := by
  obtain ⟨v0, r0, d0, e0, p0, q0, hargs, rfl, rfl, h0, h⟩ := trodAll_cons h
  obtain ⟨v1, r1, d1, e1, p1, q1, rfl, rfl, rfl, h1, h⟩ := trodAll_cons h
  obtain ⟨v2, r2, d2, e2, p2, q2, rfl, rfl, rfl, h2, h⟩ := trodAll_cons h
  obtain ⟨v3, r3, d3, e3, p3, q3, rfl, rfl, rfl, h3, h⟩ := trodAll_cons h
  obtain ⟨v4, r4, d4, e4, p4, q4, rfl, rfl, rfl, h4, h⟩ := trodAll_cons h
  obtain ⟨v5, r5, d5, e5, p5, q5, rfl, rfl, rfl, h5, h⟩ := trodAll_cons h
  obtain ⟨v6, r6, d6, e6, p6, q6, rfl, rfl, rfl, h6, h⟩ := trodAll_cons h
  obtain ⟨rfl, rfl, rfl⟩ := trodAll_nil h
  exact ⟨v0, v1, v2, v3, v4, v5, v6, d0, d1, d2, d3, d4, d5, d6, p0, p1, p2, p3, p4, p5, p6, by cases args; simp_all, rfl, by simp, h0, h1, h2, h3, h4, h5, h6⟩
theorem bytes_f {fuel : Nat} {cs : List Value} {x : DataW H × List MemPlace} (hf : DataW.trod enc Try.prog W 0 (fun _ => true) true fuel 29 cs = some x) :
    ∃ p c l, cs = [.slice p (List.length l) c] ∧ SB W (.slice p l.length c) l ∧ ∀ x ∈ l, x < 256 := by
  rcases open_ints Try.underlying29 Try.underlying5 cells_u8 hf with ⟨hcs, hx⟩ | ⟨a, len, cap, zs, hcs, hba, hl, hm, hz, hx, hcell, hwz⟩
  · exact ⟨none, 0, [], hcs, SB.nil _ _ _, fun x hx => by cases hx⟩
  · simp only [if_true] at hz
    have hrange : ∀ i, i < zs.length → 0 ≤ zs.getD i 0 ∧ zs.getD i 0 ≤ 255 := fun i hi => by
      have : zs.getD i 0 = zs[i] := by simp [List.getD, hi]
      rw [this]
      exact wf_u8 (hwz _ (List.getElem_mem hi))
    obtain ⟨l, hL⟩ : ∃ l : List Nat, l = (List.range len).map fun i => (zs.getD i 0).toNat := ⟨_, rfl⟩
    have ll : l.length = len := by rw [hL]; simp
    have bl : ∀ x ∈ l, x < 256 := fun x hx => by
      rw [hL] at hx
      obtain ⟨i, hi, rfl⟩ := List.mem_map.1 hx
      have := hrange i (by have := List.mem_range.1 hi; omega)
      omega
    refine ⟨some a, cap, l, by rw [ll]; exact hcs, ⟨some a, cap, rfl, by rw [ll]; exact hl, ?_⟩, bl⟩
    by_cases h0 : len = 0
    · exact Or.inl (List.eq_nil_of_length_eq_zero (by omega))
    · right
      obtain ⟨b, off, spot⟩ := a
      have hspot : spot = none := by simpa [Addr.add] using World.cell?_spot (hcell 0 (by omega))
      subst hspot
      have hc : ∀ i, i < zs.length → W.cell? ⟨b, off + i, none⟩ = some (.int .u8 (zs.getD i 0)) := fun i hi => by
        have := hcell i hi
        rw [Addr.add_lit] at this
        exact this
      refine ⟨b, off, rfl, fun i hi => ?_, World.block_lt_of_cell? _ _ (hc 0 (by omega))⟩
      have hr := hrange i (by omega)
      rw [hc i (by omega)]
      congr 2
      have : l[i] = (zs.getD i 0).toNat := by simp only [hL, List.getElem_map, List.getElem_range]
      omega
theorem head_f {fuel : Nat} {cs : List Value} {x : DataW H × List MemPlace} (hf : DataW.trod enc Try.prog W 0 (fun _ => true) true fuel 31 cs = some x) :
    ∃ (sp : Int) (vt vf : Value) (to fr : List Nat), cs = hdL sp vt vf ∧ i64_ok sp ∧ SB W vt to ∧ SB W vf fr ∧ Bytes to ∧ Bytes fr := by
  obtain ⟨xs, n, _, _, hlen, hn, hel⟩ := DataW.trod_struct Try.underlying31 hf
  rw [cells_hd] at hlen
  match cs, hlen with
  | [c0, c1, c2], _ =>
    match xs, hn with
    | [y0, y1, y2], _ =>
      have t0 := hel 0 _ rfl
      have t1 := hel 1 _ rfl
      have t2 := hel 2 _ rfl
      simp [cells_int, cells_bytes] at t0 t1 t2
      obtain ⟨n0, e0, _, w0⟩ := DataW.trod_int Try.underlying3 t0
      obtain ⟨p1, q1, a, e1, s1, ba⟩ := bytes_f t1
      obtain ⟨p2, q2, d, e2, s2, bd⟩ := bytes_f t2
      simp only [List.cons.injEq, and_true] at e0 e1 e2
      subst e0 e1 e2
      exact ⟨n0, _, _, a, d, rfl, int_ok w0, s1, s2, ba, bd⟩
theorem open_head {r : Reach} {base : Nat} {v : Value} {d : DataW H} {ps : List MemPlace} (hval : Value.okWide Try.prog W r base 31 v) (hd : DataW.Trod enc Try.prog W 0 (fun _ => true) true 31 v d ps) :
    ∃ (sp : Int) (vt vf : Value) (to fr : List Nat), v = hdV sp vt vf ∧ i64_ok sp ∧ SB W vt to ∧ SB W vf fr ∧ Bytes to ∧ Bytes fr := by
  obtain ⟨cs, rfl, _⟩ := okWide_struct Try.underlying31 hval
  obtain ⟨fuel, hf⟩ := hd
  obtain ⟨sp, vt, vf, a, d, e, h⟩ := head_f hf
  refine ⟨sp, vt, vf, a, d, ?_, h⟩
  unfold hdV
  rw [← e]
  simp [Value.cells]
theorem open_b8 {r : Reach} {b0 base : Nat} {sp : Nat → Bool} {held : Bool} {v : Value} {d : DataW H} {ps : List MemPlace}
    (hval : Value.okWide Try.prog W r b0 39 v) (hd : DataW.Trod enc Try.prog W base sp held 39 v d ps) :
    ∃ l, v = .agg (Iv .u8 (NI l)) ∧ l.length = 8 ∧ ∀ x ∈ l, x < 256 := by
  obtain ⟨cs, rfl, hsz, _⟩ : ∃ cs, v = .agg cs ∧ cs.size = Try.prog.cellsOf 39 ∧ Row.okWide Try.prog W r b0 39 cs := by
    simpa [Value.okWide, Try.underlying39] using hval
  rw [cells_b8] at hsz
  obtain ⟨fuel, hf⟩ := hd
  obtain ⟨xs, m, rfl, hx, hlen, hn, hel⟩ := DataW.trod_array Try.underlying39 hf
  have hel2 : ∀ i, i < 8 → ∃ n, cs[i]? = some (.int .u8 n) ∧ (Lit.int .u8 n).wf = true := by
    intro i hi
    have h0 := hel i hi
    rw [cells_u8, Nat.mul_one] at h0
    cases hxi : xs[i]? with
    | none => rw [List.getElem?_eq_none_iff] at hxi; omega
    | some y =>
      rw [hxi] at h0
      obtain ⟨n, hc, rfl, hw⟩ := DataW.trod_int Try.underlying5 h0
      refine ⟨n, ?_, hw⟩
      have hi2 : i < cs.toList.length := by simp; omega
      have : ((cs.toList.drop i).take 1) = [.int .u8 n] := hc
      rw [List.drop_eq_getElem_cons hi2] at this
      simp at this
      rw [Array.getElem?_eq_getElem (by omega), this]
  obtain ⟨l, hl⟩ : ∃ l : List Nat, l = (List.range 8).map fun i => match cs[i]? with | some (.int .u8 n) => n.toNat | _ => 0 := ⟨_, rfl⟩
  have hlen8 : l.length = 8 := by simp [hl]
  have hget : ∀ i (_ : i < 8), cs[i]? = some (.int .u8 ((l.getD i 0 : Nat) : Int)) ∧ l.getD i 0 < 256 := by
    intro i h
    obtain ⟨n, h1, h3⟩ := hel2 i h
    have hn := wf_u8 h3
    have : ((l.getD i 0 : Nat) : Int) = n := by
      rw [hl]
      simp [h, h1]
      omega
    rw [this]
    exact ⟨h1, by omega⟩
  have hcs : cs = Iv .u8 (NI l) := by
    apply Array.ext_getElem?
    intro i
    by_cases h : i < 8
    · rw [(hget i h).1, NI_get _ _ (by omega)]
      simp [hlen8, h]
    · rw [Array.getElem?_eq_none (by omega), Array.getElem?_eq_none (by rw [Iv_size, NI_length]; omega)]
  refine ⟨l, by rw [hcs], hlen8, fun x hx2 => ?_⟩
  obtain ⟨i, hi, rfl⟩ := List.getElem_of_mem hx2
  have := (hget i (by omega)).2
  simpa [hi] using this
end
end Go.Proofs.Ytfhiflakglhneaa
