/- Slices of bytes and of words opened and shut; a row's last step (printed by genyd.py). -/
import Derived.Test.YtdlhclakdllogaaYb
import Derived.ProofKit
import Derived.OpenShut
import Derived.DataShut
import Derived.ChangeSame
import Derived.JoinedOf
import Derived.JoinedAt
import Derived.RowKit3
import Derived.Carry
import Derived.ChangeSlices
import Derived.Test.YtdlhclakdllogaaUy
import Derived.Deep.Slices
namespace Go.Proofs.Ytdlhclakdllogaa
open Go.ChangeShapes Go.WideShapes Go.ChangeAt Go.RowKit

theorem cells_u8 : Try.prog.cellsOf 5 = 1 := by kernel_rfl
theorem wf_u8 {n : Int} (h : (Lit.int .u8 n).wf = true) : 0 ≤ n ∧ n ≤ 255 := by
  simp [Lit.wf, IntKind.min, IntKind.max, IntKind.signed, IntKind.bits] at h
  omega

theorem cells_u64 : Try.prog.cellsOf 22 = 1 := by kernel_rfl
theorem wf_u64 {n : Int} (h : (Lit.int .u64 n).wf = true) : 0 ≤ n ∧ n ≤ 18446744073709551615 := by
  simp [Lit.wf, IntKind.min, IntKind.max, IntKind.signed, IntKind.bits] at h
  omega

section
variable {H : Type} {enc : TypeId × Value → H}
/-- The row's last step where the call leaves what was there as it was, and an argument may have spare room. -/
theorem post_below2 {P : Program} {f : Func} {s : ChangeSpec} {apart fresh handsOn again : Bool} {W W' : World} {args : Array Value} {v : Value} {ds gs : List (DataW H)} {before pa pv : List MemPlace}
    (hW : DataW.Whole enc P f.params.toList s.vars apart W args.toList ds gs before)
    (hres : ∀ (b : Nat) (sp : Nat → Bool) (hd : Bool), DataW.TrodAll enc P W' b sp hd f.resultTypes.toList (v.resultList f.resultTypes.size) (s.fn H (ds ++ gs)).results [])
    (hargs : ∀ sp : Nat → Bool, (∀ p ∈ before, sp p.block = true) → DataW.TrodAll enc P W' 0 sp true f.params.toList args.toList (s.fn H (ds ++ gs)).args pa)
    (hvars : ∀ sp : Nat → Bool, (∀ p ∈ before, sp p.block = true) → DataW.TrodVars enc P W' sp s.vars (s.fn H (ds ++ gs)).vars pv)
    (hps : before = pa ++ pv) (hb : Below W.heap.size W W')
    (hok : ∀ (j : Nat) (t : TypeId) (r : Value), f.resultTypes[j]? = some t → (v.resultList f.resultTypes.size)[j]? = some r → Value.okWide P W' .any 0 t r) :
    s.post enc P f apart fresh handsOn again W args v W' := by
  have hlt : ∀ p ∈ before, p.block < W.heap.size := fun p hp => hW.lt p hp
  have hold : ∀ p ∈ before, (fun b => decide (b < W.heap.size)) p.block = true := fun p hp => by simpa using hlt p hp
  refine ⟨ds, gs, before, [], pa, pv, hW, hres _ _ _, hargs _ hold, hvars _ hold, World.keptBut_mono (fun p hp => ⟨hp, ?_⟩) (hb.frame (· ∈ before)), fun _ => ?_⟩
  · rw [hps, List.mem_append] at hp
    exact Or.inr hp
  · obtain ⟨_, _, _, _, _, hz, hn⟩ := hW
    refine ⟨hok, _, _, ([] ++ pa) ++ pv, ⟨[] ++ pa, pv, trodAll_append (hargs _ (fun _ _ => rfl)) (hres _ _ _), hvars _ (fun _ _ => rfl), rfl, ?_, ?_⟩, ?_⟩
    · intro b off hp
      have hin : MemPlace.cell b off ∈ before := by rw [hps]; simpa using hp
      rw [hb.frozen (hlt _ hin)]
      exact hz b off hin
    · intro ha
      have := hn ha
      rw [hps] at this
      simpa using this
    · intro p hp _
      rw [hps]
      simpa using hp

theorem open_bytes {W : World} {r : Reach} {base : Nat} {v : Value} {d : DataW H} {ps : List MemPlace} (hval : Value.okWide Try.prog W r base 23 v) (hd : DataW.Trod enc Try.prog W 0 (fun _ => true) true 23 v d ps) :
    ∃ p c l, v = .slice p (List.length l) c ∧ SB W v l ∧ (∀ x ∈ l, x < 256) ∧ ∀ W' : World, Below W.heap.size W W' → ∀ sp : Nat → Bool, (∀ x ∈ ps, sp x.block = true) → DataW.Trod enc Try.prog W' 0 sp true 23 v d ps := by
  obtain ⟨a1, len, cap, rfl⟩ := okWide_slice Try.underlying23 hval
  obtain ⟨fuel, hf⟩ := hd
  rcases open_ints Try.underlying23 Try.underlying5 cells_u8 hf with ⟨hcs, hx⟩ | ⟨a, len', cap', zs, hcs, hba, hl, hm, hz, hx, hcell, hwz⟩
  · simp [Value.cells] at hcs
    obtain ⟨rfl, rfl, rfl⟩ := hcs
    simp only [Prod.mk.injEq] at hx
    obtain ⟨rfl, rfl⟩ := hx
    exact ⟨none, 0, [], rfl, SB.nil _ _ _, (fun x hx => by cases hx), fun W' _ sp _ => shut_slice_nil Try.underlying23⟩
  · simp [Value.cells] at hcs
    obtain ⟨rfl, rfl, rfl⟩ := hcs
    simp only [Prod.mk.injEq] at hx
    obtain ⟨rfl, rfl⟩ := hx
    simp only [if_true] at hz
    have hrange : ∀ i, i < zs.length → 0 ≤ zs.getD i 0 ∧ zs.getD i 0 ≤ 255 := fun i hi => by
      have : zs.getD i 0 = zs[i] := by simp [List.getD, hi]
      rw [this]
      exact wf_u8 (hwz _ (List.getElem_mem hi))
    obtain ⟨l, hL⟩ : ∃ l : List Nat, l = (List.range len).map fun i => (zs.getD i 0).toNat := ⟨_, rfl⟩
    have ll : l.length = len := by rw [hL]; simp
    have bl : ∀ x ∈ l, x < 256 := fun x hx => by
      rw [hL] at hx
      obtain ⟨i, hi, rfl⟩ := List.mem_map.1 hx
      have := hrange i (by have := List.mem_range.1 hi; omega)
      omega
    refine ⟨some a, cap, l, by rw [ll], ⟨some a, cap, by rw [ll], by rw [ll]; exact hl, ?_⟩, bl, ?_⟩
    · by_cases h0 : len = 0
      · exact Or.inl (List.eq_nil_of_length_eq_zero (by omega))
      · right
        obtain ⟨b, off, spot⟩ := a
        have hspot : spot = none := by simpa [Addr.add] using World.cell?_spot (hcell 0 (by omega))
        subst hspot
        have hc : ∀ i, i < zs.length → W.cell? ⟨b, off + i, none⟩ = some (.int .u8 (zs.getD i 0)) := fun i hi => by
          have := hcell i hi
          rw [Addr.add_lit] at this
          exact this
        refine ⟨b, off, rfl, fun i hi => ?_, World.block_lt_of_cell? _ _ (hc 0 (by omega))⟩
        have hr := hrange i (by omega)
        rw [hc i (by omega)]
        congr 2
        have : l[i] = (zs.getD i 0).toNat := by simp only [hL, List.getElem_map, List.getElem_range]
        omega
    · intro W' hb sp hsp
      refine ⟨2, shut_ints 0 Try.underlying23 Try.underlying5 cells_u8 (Nat.zero_le _) hl hm ?_ ?_ hwz⟩
      · by_cases h0 : cap = 0
        · have : len = 0 := by omega
          rw [hz, h0, this]
          simp
        · have : sp a.block = true := hsp (.cell a.block (a.off + 0)) (by
            simp only [MemPlace.row, List.mem_map, List.mem_range]
            exact ⟨0, by omega, rfl⟩)
          rw [this, hz]
          simp
      · intro i hi
        rw [← hcell i hi]
        refine hb.cell ?_
        have := World.block_lt_of_cell? _ _ (hcell i hi)
        exact this
theorem open_words {W : World} {r : Reach} {base : Nat} {v : Value} {d : DataW H} {ps : List MemPlace} (hval : Value.okWide Try.prog W r base 49 v) (hd : DataW.Trod enc Try.prog W 0 (fun _ => true) true 49 v d ps) :
    ∃ p c l, v = .slice p (List.length l) c ∧ SU W v l ∧ (∀ x ∈ l, x < 18446744073709551616) ∧ ∀ W' : World, Below W.heap.size W W' → ∀ sp : Nat → Bool, (∀ x ∈ ps, sp x.block = true) → DataW.Trod enc Try.prog W' 0 sp true 49 v d ps := by
  obtain ⟨a1, len, cap, rfl⟩ := okWide_slice Try.underlying49 hval
  obtain ⟨fuel, hf⟩ := hd
  rcases open_ints Try.underlying49 Try.underlying22 cells_u64 hf with ⟨hcs, hx⟩ | ⟨a, len', cap', zs, hcs, hba, hl, hm, hz, hx, hcell, hwz⟩
  · simp [Value.cells] at hcs
    obtain ⟨rfl, rfl, rfl⟩ := hcs
    simp only [Prod.mk.injEq] at hx
    obtain ⟨rfl, rfl⟩ := hx
    exact ⟨none, 0, [], rfl, SU.nil _ _ _, (fun x hx => by cases hx), fun W' _ sp _ => shut_slice_nil Try.underlying49⟩
  · simp [Value.cells] at hcs
    obtain ⟨rfl, rfl, rfl⟩ := hcs
    simp only [Prod.mk.injEq] at hx
    obtain ⟨rfl, rfl⟩ := hx
    simp only [if_true] at hz
    have hrange : ∀ i, i < zs.length → 0 ≤ zs.getD i 0 ∧ zs.getD i 0 ≤ 18446744073709551615 := fun i hi => by
      have : zs.getD i 0 = zs[i] := by simp [List.getD, hi]
      rw [this]
      exact wf_u64 (hwz _ (List.getElem_mem hi))
    obtain ⟨l, hL⟩ : ∃ l : List Nat, l = (List.range len).map fun i => (zs.getD i 0).toNat := ⟨_, rfl⟩
    have ll : l.length = len := by rw [hL]; simp
    have bl : ∀ x ∈ l, x < 18446744073709551616 := fun x hx => by
      rw [hL] at hx
      obtain ⟨i, hi, rfl⟩ := List.mem_map.1 hx
      have := hrange i (by have := List.mem_range.1 hi; omega)
      omega
    refine ⟨some a, cap, l, by rw [ll], ⟨some a, cap, by rw [ll], by rw [ll]; exact hl, ?_⟩, bl, ?_⟩
    · by_cases h0 : len = 0
      · exact Or.inl (List.eq_nil_of_length_eq_zero (by omega))
      · right
        obtain ⟨b, off, spot⟩ := a
        have hspot : spot = none := by simpa [Addr.add] using World.cell?_spot (hcell 0 (by omega))
        subst hspot
        have hc : ∀ i, i < zs.length → W.cell? ⟨b, off + i, none⟩ = some (.int .u64 (zs.getD i 0)) := fun i hi => by
          have := hcell i hi
          rw [Addr.add_lit] at this
          exact this
        refine ⟨b, off, rfl, fun i hi => ?_, World.block_lt_of_cell? _ _ (hc 0 (by omega))⟩
        have hr := hrange i (by omega)
        rw [hc i (by omega)]
        congr 2
        have : l[i] = (zs.getD i 0).toNat := by simp only [hL, List.getElem_map, List.getElem_range]
        omega
    · intro W' hb sp hsp
      refine ⟨2, shut_ints 0 Try.underlying49 Try.underlying22 cells_u64 (Nat.zero_le _) hl hm ?_ ?_ hwz⟩
      · by_cases h0 : cap = 0
        · have : len = 0 := by omega
          rw [hz, h0, this]
          simp
        · have : sp a.block = true := hsp (.cell a.block (a.off + 0)) (by
            simp only [MemPlace.row, List.mem_map, List.mem_range]
            exact ⟨0, by omega, rfl⟩)
          rw [this, hz]
          simp
      · intro i hi
        rw [← hcell i hi]
        refine hb.cell ?_
        have := World.block_lt_of_cell? _ _ (hcell i hi)
        exact this
end
end Go.Proofs.Ytdlhclakdllogaa
/- Arguments that are only read: read again behind the call, unopened. -/
namespace Go.Proofs.Ytdlhclakdllogaa
open Go.ChangeShapes Go.WideShapes Go.ChangeAt Go.RowKit

section
variable {H : Type} {enc : TypeId × Value → H}
theorem args_stay {P : Program} (hl : laidOutB P = true) {W W' : World} (hb : Below W.heap.size W W') (sp : Nat → Bool) :
    ∀ {ts : List TypeId} {vs : List Value} {ds : List (DataW H)} {ps : List MemPlace}, (∀ t ∈ ts, P.readableRec t = true ∧ t < P.types.size) → DataW.TrodAll enc P W 0 (fun _ => true) true ts vs ds ps →
      (∀ x ∈ ps, x.block < W.heap.size) → (∀ x ∈ ps, sp x.block = true) → DataW.TrodAll enc P W' 0 sp true ts vs ds ps
  | [], _, _, _, _, h, _, _ => by
    obtain ⟨rfl, rfl, rfl⟩ := trodAll_nil h
    exact rfl
  | t :: ts, _, _, _, hr, h, hlt, hsp => by
    obtain ⟨v, vs1, d, ds1, a, b, rfl, rfl, rfl, h1, h2⟩ := trodAll_cons h
    exact ⟨a, b, WideElems.Trod_stays hl (hr t (by simp)).1 (hr t (by simp)).2 h1 (fun x hx => hb.same (hlt x (by simp [hx]))) (fun x hx => hsp x (by simp [hx])),
      args_stay hl hb sp (fun t ht => hr t (by simp [ht])) h2 (fun x hx => hlt x (by simp [hx])) (fun x hx => hsp x (by simp [hx])), rfl⟩
/-- The row's last step where the call leaves what was there as it was, whatever the arguments are. -/
theorem post_reads {P : Program} {f : Func} {s : ChangeSpec} {apart fresh handsOn again : Bool} {W W' : World} {args : Array Value} {v : Value} {ds gs : List (DataW H)} {before pv : List MemPlace}
    (hl : laidOutB P = true) (hr : ∀ t ∈ f.params.toList, P.readableRec t = true ∧ t < P.types.size)
    (hW : DataW.Whole enc P f.params.toList s.vars apart W args.toList ds gs before)
    (hA : DataW.TrodAll enc P W 0 (fun _ => true) true f.params.toList args.toList ds before)
    (hres : ∀ (b : Nat) (sp : Nat → Bool) (hd : Bool), DataW.TrodAll enc P W' b sp hd f.resultTypes.toList (v.resultList f.resultTypes.size) (s.fn H (ds ++ gs)).results [])
    (hargs : (s.fn H (ds ++ gs)).args = ds)
    (hvars : ∀ sp : Nat → Bool, DataW.TrodVars enc P W' sp s.vars (s.fn H (ds ++ gs)).vars pv) (hpv : pv = []) (hb : Below W.heap.size W W')
    (hok : ∀ (j : Nat) (t : TypeId) (r : Value), f.resultTypes[j]? = some t → (v.resultList f.resultTypes.size)[j]? = some r → Value.okWide P W' .any 0 t r) :
    s.post enc P f apart fresh handsOn again W args v W' := by
  have hlt : ∀ p ∈ before, p.block < W.heap.size := fun p hp => hW.lt p hp
  have hold : ∀ p ∈ before, (fun b => decide (b < W.heap.size)) p.block = true := fun p hp => by simpa using hlt p hp
  refine ⟨ds, gs, before, [], before, pv, hW, hres _ _ _, hargs.symm ▸ args_stay hl hb _ hr hA hlt hold, hvars _, World.keptBut_mono (fun p hp => ⟨hp, Or.inr (Or.inl hp)⟩) (hb.frame (· ∈ before)), fun _ => ?_⟩
  obtain ⟨_, _, _, _, _, hz, hn⟩ := hW
  refine ⟨hok, _, _, ([] ++ before) ++ pv, ⟨[] ++ before, pv, trodAll_append (hargs.symm ▸ args_stay hl hb _ hr hA hlt (fun _ _ => rfl)) (hres _ _ _), hvars _, rfl, ?_, ?_⟩, ?_⟩
  · intro b off hp
    have hin : MemPlace.cell b off ∈ before := by simpa [hpv] using hp
    rw [hb.frozen (hlt _ hin)]
    exact hz b off hin
  · intro ha
    simpa [hpv] using hn ha
  · intro p hp _
    simpa [hpv] using hp
end
end Go.Proofs.Ytdlhclakdllogaa
/- Frames and spans, handed in, opened. -/
namespace Go.Proofs.Ytdlhclakdllogaa
open Go.ChangeShapes Go.WideShapes Go.ChangeAt Go.RowKit

theorem cells_bool : Try.prog.cellsOf 4 = 1 := by kernel_rfl
theorem cells_bytes : Try.prog.cellsOf 23 = 1 := by kernel_rfl
theorem cells_spans : Try.prog.cellsOf 24 = 1 := by kernel_rfl
theorem cells_span : Try.prog.cellsOf 47 = 2 := by kernel_rfl
theorem cells_frame : Try.prog.cellsOf 26 = 8 := by kernel_rfl
theorem nat_u64 {n : Int} (h : (Lit.int .u64 n).wf = true) : ∃ k : Nat, n = ((k : Nat) : Int) ∧ k < 18446744073709551616 := by
  have := wf_u64 h
  exact ⟨n.toNat, by omega, by omega⟩
section
variable {H : Type} {enc : TypeId × Value → H} {W : World}
theorem bytes_f {fuel : Nat} {cs : List Value} {x : DataW H × List MemPlace} (hf : DataW.trod enc Try.prog W 0 (fun _ => true) true fuel 23 cs = some x) :
    ∃ p c l, cs = [.slice p (List.length l) c] ∧ SB W (.slice p l.length c) l ∧ ∀ x ∈ l, x < 256 := by
  rcases open_ints Try.underlying23 Try.underlying5 cells_u8 hf with ⟨hcs, hx⟩ | ⟨a, len, cap, zs, hcs, hba, hl, hm, hz, hx, hcell, hwz⟩
  · exact ⟨none, 0, [], hcs, SB.nil _ _ _, fun x hx => by cases hx⟩
  · simp only [if_true] at hz
    have hrange : ∀ i, i < zs.length → 0 ≤ zs.getD i 0 ∧ zs.getD i 0 ≤ 255 := fun i hi => by
      have : zs.getD i 0 = zs[i] := by simp [List.getD, hi]
      rw [this]
      exact wf_u8 (hwz _ (List.getElem_mem hi))
    obtain ⟨l, hL⟩ : ∃ l : List Nat, l = (List.range len).map fun i => (zs.getD i 0).toNat := ⟨_, rfl⟩
    have ll : l.length = len := by rw [hL]; simp
    have bl : ∀ x ∈ l, x < 256 := fun x hx => by
      rw [hL] at hx
      obtain ⟨i, hi, rfl⟩ := List.mem_map.1 hx
      have := hrange i (by have := List.mem_range.1 hi; omega)
      omega
    refine ⟨some a, cap, l, by rw [ll]; exact hcs, ⟨some a, cap, rfl, by rw [ll]; exact hl, ?_⟩, bl⟩
    by_cases h0 : len = 0
    · exact Or.inl (List.eq_nil_of_length_eq_zero (by omega))
    · right
      obtain ⟨b, off, spot⟩ := a
      have hspot : spot = none := by simpa [Addr.add] using World.cell?_spot (hcell 0 (by omega))
      subst hspot
      have hc : ∀ i, i < zs.length → W.cell? ⟨b, off + i, none⟩ = some (.int .u8 (zs.getD i 0)) := fun i hi => by
        have := hcell i hi
        rw [Addr.add_lit] at this
        exact this
      refine ⟨b, off, rfl, fun i hi => ?_, World.block_lt_of_cell? _ _ (hc 0 (by omega))⟩
      have hr := hrange i (by omega)
      rw [hc i (by omega)]
      congr 2
      have : l[i] = (zs.getD i 0).toNat := by simp only [hL, List.getElem_map, List.getElem_range]
      omega
theorem span_f {fuel : Nat} {cs : List Value} {x : DataW H × List MemPlace} (hf : DataW.trod enc Try.prog W 0 (fun _ => true) true fuel 47 cs = some x) :
    ∃ q : Nat × Nat, cs = spL q ∧ q.1 < 18446744073709551616 ∧ q.2 < 18446744073709551616 := by
  obtain ⟨y0, y1, n, _, hlen, t0, t1⟩ := trod_struct2 Try.underlying47 hf
  rw [cells_span] at hlen
  match cs, hlen with
  | [c0, c1], _ =>
    simp [cells_u64] at t0 t1
    obtain ⟨n0, e0, _, w0⟩ := DataW.trod_int Try.underlying22 t0
    obtain ⟨n1, e1, _, w1⟩ := DataW.trod_int Try.underlying22 t1
    simp only [List.cons.injEq, and_true] at e0 e1
    obtain ⟨k0, rfl, h0⟩ := nat_u64 w0
    obtain ⟨k1, rfl, h1⟩ := nat_u64 w1
    subst e0
    subst e1
    exact ⟨(k0, k1), rfl, h0, h1⟩
theorem spans_f {fuel : Nat} {cs : List Value} {x : DataW H × List MemPlace} (hf : DataW.trod enc Try.prog W 0 (fun _ => true) true fuel 24 cs = some x) :
    ∃ p c l, cs = [.slice p (List.length l) c] ∧ SA W (.slice p l.length c) l ∧ l.length ≤ 9223372036854775807 ∧ ∀ q ∈ l, q.1 < 18446744073709551616 ∧ q.2 < 18446744073709551616 := by
  rcases Deep.open_slice Try.underlying24 hf with ⟨hcs, hx⟩ | ⟨a, len, cap, m, n, D, Pl, hcs, hba, hl, hm, hmm, hx, hel⟩
  · exact ⟨none, 0, [], hcs, SA.nil _ _ _, Nat.zero_le _, fun x hx => by cases hx⟩
  · simp only [if_true] at hmm
    rw [cells_span] at hel
    have each : ∀ i, i < len → ∃ q : Nat × Nat, (q.1 < 18446744073709551616 ∧ q.2 < 18446744073709551616) ∧ ∀ j v, (spL q)[j]? = some v → W.cell? (a.add (i * 2 + j)) = some v := fun i hi => by
      obtain ⟨cs', h1, h2⟩ := hel i (by omega)
      obtain ⟨_, h3, h4⟩ := World.cells?_some h1
      obtain ⟨q, h5, h6, h7⟩ := span_f h2
      refine ⟨q, ⟨h6, h7⟩, fun j v hv => ?_⟩
      have hj : j < 2 := (List.getElem?_eq_some_iff.1 hv).1
      have := h4 j (by omega)
      rw [← Deep.add_add, this, h5]
      exact hv
    obtain ⟨Fq, hF⟩ := Deep.choose_lt (α := Nat × Nat) each
    obtain ⟨l, hL⟩ : ∃ l : List (Nat × Nat), l = (List.range len).map Fq := ⟨_, rfl⟩
    have ll : l.length = len := by rw [hL]; simp
    have lg : ∀ i (h : i < l.length), l[i] = Fq i := fun i h => by simp only [hL, List.getElem_map, List.getElem_range]
    refine ⟨some a, cap, l, by rw [ll]; exact hcs, ⟨some a, cap, rfl, by rw [ll]; exact hl, ?_⟩, by simp only [maxLen] at hm; omega, fun q hq => ?_⟩
    · by_cases h0 : len = 0
      · exact Or.inl (List.eq_nil_of_length_eq_zero (by omega))
      · right
        obtain ⟨b, off, spot⟩ := a
        have hc0 := (hF 0 (by omega)).2 0 _ rfl
        have hspot : spot = none := by simpa [Addr.add] using World.cell?_spot hc0
        subst hspot
        rw [Addr.add_lit] at hc0
        refine ⟨b, off, rfl, fun i hi j v hv => ?_, World.block_lt_of_cell? _ _ hc0⟩
        rw [lg i hi] at hv
        have := (hF i (by omega)).2 j v hv
        rw [Addr.add_lit, ← Nat.add_assoc] at this
        exact this
    · obtain ⟨i, hi, rfl⟩ := List.getElem_of_mem hq
      rw [lg i hi]
      exact (hF i (by omega)).1
theorem frame_f {fuel : Nat} {cs : List Value} {x : DataW H × List MemPlace} (hf : DataW.trod enc Try.prog W 0 (fun _ => true) true fuel 26 cs = some x) :
    ∃ f vd va, cs = frL f vd va ∧ f.Ok ∧ FD W f vd va := by
  obtain ⟨xs, n, _, _, hlen, hn, hel⟩ := DataW.trod_struct Try.underlying26 hf
  rw [cells_frame] at hlen
  match cs, hlen with
  | [c0, c1, c2, c3, c4, c5, c6, c7], _ =>
    match xs, hn with
    | [y0, y1, y2, y3, y4, y5, y6, y7], _ =>
      have t0 := hel 0 _ rfl
      have t1 := hel 1 _ rfl
      have t2 := hel 2 _ rfl
      have t3 := hel 3 _ rfl
      have t4 := hel 4 _ rfl
      have t5 := hel 5 _ rfl
      have t6 := hel 6 _ rfl
      have t7 := hel 7 _ rfl
      simp [cells_u64, cells_bool, cells_bytes, cells_spans] at t0 t1 t2 t3 t4 t5 t6 t7
      obtain ⟨n0, e0, _, w0⟩ := DataW.trod_int Try.underlying22 t0
      obtain ⟨n1, e1, _, w1⟩ := DataW.trod_int Try.underlying22 t1
      obtain ⟨n2, e2, _, w2⟩ := DataW.trod_int Try.underlying22 t2
      obtain ⟨n3, e3, _, w3⟩ := DataW.trod_int Try.underlying22 t3
      obtain ⟨n4, e4, _, w4⟩ := DataW.trod_int Try.underlying22 t4
      obtain ⟨b5, e5, _⟩ := DataW.trod_bool Try.underlying4 t5
      obtain ⟨p6, q6, d, e6, s6, bd⟩ := bytes_f t6
      obtain ⟨p7, q7, a, e7, s7, _, ba⟩ := spans_f t7
      simp only [List.cons.injEq, and_true] at e0 e1 e2 e3 e4 e5 e6 e7
      obtain ⟨k0, rfl, h0⟩ := nat_u64 w0
      obtain ⟨k1, rfl, h1⟩ := nat_u64 w1
      obtain ⟨k2, rfl, h2⟩ := nat_u64 w2
      obtain ⟨k3, rfl, h3⟩ := nat_u64 w3
      obtain ⟨k4, rfl, h4⟩ := nat_u64 w4
      subst e0 e1 e2 e3 e4 e5 e6 e7
      exact ⟨⟨k0, k1, k2, k3, k4, b5, d, a⟩, _, _, rfl, ⟨h0, h1, h2, h3, h4, bd, ba⟩, ⟨s6, s7⟩⟩
theorem open_frame {r : Reach} {base : Nat} {v : Value} {d : DataW H} {ps : List MemPlace} (hval : Value.okWide Try.prog W r base 26 v) (hd : DataW.Trod enc Try.prog W 0 (fun _ => true) true 26 v d ps) :
    ∃ f vd va, v = frV f vd va ∧ f.Ok ∧ FD W f vd va := by
  obtain ⟨cs, rfl, _⟩ := okWide_struct Try.underlying26 hval
  obtain ⟨fuel, hf⟩ := hd
  obtain ⟨f, vd, va, e, h1, h2⟩ := frame_f hf
  refine ⟨f, vd, va, ?_, h1, h2⟩
  unfold frV
  rw [← e]
  simp [Value.cells]
theorem open_spans {r : Reach} {base : Nat} {v : Value} {d : DataW H} {ps : List MemPlace} (hval : Value.okWide Try.prog W r base 24 v) (hd : DataW.Trod enc Try.prog W 0 (fun _ => true) true 24 v d ps) :
    ∃ p c l, v = .slice p (List.length l) c ∧ SA W v l ∧ l.length ≤ 9223372036854775807 ∧ ∀ q ∈ l, q.1 < 18446744073709551616 ∧ q.2 < 18446744073709551616 := by
  obtain ⟨a1, len, cap, rfl⟩ := okWide_slice Try.underlying24 hval
  obtain ⟨fuel, hf⟩ := hd
  obtain ⟨p, c, l, e, h⟩ := spans_f hf
  simp [Value.cells] at e
  obtain ⟨rfl, rfl, rfl⟩ := e
  exact ⟨_, _, l, rfl, h⟩
theorem open_frames {r : Reach} {base : Nat} {v : Value} {d : DataW H} {ps : List MemPlace} (hval : Value.okWide Try.prog W r base 29 v) (hd : DataW.Trod enc Try.prog W 0 (fun _ => true) true 29 v d ps) :
    ∃ p c l, v = .slice p (List.length l) c ∧ FS W v l ∧ l.length ≤ 9223372036854775807 ∧ ∀ f ∈ l, f.Ok := by
  obtain ⟨a1, len, cap, rfl⟩ := okWide_slice Try.underlying29 hval
  obtain ⟨fuel, hf⟩ := hd
  rcases Deep.open_slice Try.underlying29 hf with ⟨hcs, hx⟩ | ⟨a, len', cap', m, n, D, Pl, hcs, hba, hl, hm, hmm, hx, hel⟩
  · simp [Value.cells] at hcs
    obtain ⟨rfl, rfl, rfl⟩ := hcs
    exact ⟨none, 0, [], rfl, FS.nil _ _ _, Nat.zero_le _, fun x hx => by cases hx⟩
  · simp [Value.cells] at hcs
    obtain ⟨rfl, rfl, rfl⟩ := hcs
    simp only [if_true] at hmm
    rw [cells_frame] at hel
    have each : ∀ i, i < len → ∃ x : Fr × Value × Value, (x.1.Ok ∧ FD W x.1 x.2.1 x.2.2) ∧ ∀ j v, (frL3 x)[j]? = some v → W.cell? (a.add (i * 8 + j)) = some v := fun i hi => by
      obtain ⟨cs', h1, h2⟩ := hel i (by omega)
      obtain ⟨_, h3, h4⟩ := World.cells?_some h1
      obtain ⟨f, vd, va, h5, h6, h7⟩ := frame_f h2
      refine ⟨(f, vd, va), ⟨h6, h7⟩, fun j v hv => ?_⟩
      have hj : j < 8 := (List.getElem?_eq_some_iff.1 hv).1
      have := h4 j (by omega)
      rw [← Deep.add_add, this, h5]
      exact hv
    obtain ⟨Fq, hF⟩ := Deep.choose_lt (α := Fr × Value × Value) each
    obtain ⟨l, hL⟩ : ∃ l : List Fr, l = (List.range len).map fun i => (Fq i).1 := ⟨_, rfl⟩
    have ll : l.length = len := by rw [hL]; simp
    have lg : ∀ i (h : i < l.length), l[i] = (Fq i).1 := fun i h => by simp only [hL, List.getElem_map, List.getElem_range]
    refine ⟨some a, cap, l, by rw [ll], ⟨some a, cap, by rw [ll], by rw [ll]; exact hl, ?_⟩, by simp only [maxLen] at hm; omega, fun f hq => ?_⟩
    · by_cases h0 : len = 0
      · exact Or.inl (List.eq_nil_of_length_eq_zero (by omega))
      · right
        obtain ⟨b, off, spot⟩ := a
        have hc0 := (hF 0 (by omega)).2 0 _ rfl
        have hspot : spot = none := by simpa [Addr.add] using World.cell?_spot hc0
        subst hspot
        rw [Addr.add_lit] at hc0
        refine ⟨b, off, rfl, fun i hi => ⟨(Fq i).2.1, (Fq i).2.2, by rw [lg i hi]; exact (hF i (by omega)).1.2, fun j v hv => ?_⟩, World.block_lt_of_cell? _ _ hc0⟩
        rw [lg i hi] at hv
        have := (hF i (by omega)).2 j v hv
        rw [Addr.add_lit, ← Nat.add_assoc] at this
        exact this
    · obtain ⟨i, hi, rfl⟩ := List.getElem_of_mem hq
      rw [lg i hi]
      exact (hF i (by omega)).1.1
end
end Go.Proofs.Ytdlhclakdllogaa
