/- Slices of bytes opened and shut; a row's last step (printed by genyd.py). Slices of slices of bytes handed in, opened; HelloRows' rounds out of what was handed in. Arguments that are only read: read again behind the call, unopened. -/
import Derived.Test.YtegbnadnodlalaaDoorBg0Us
import Derived.ProofKit
import Derived.OpenShut
import Derived.DataShut
import Derived.ChangeSame
import Derived.JoinedOf
import Derived.JoinedAt
import Derived.RowKit3
import Derived.Carry
import Derived.ChangeSlices
import Derived.Test.YtegbnadnodlalaaDoorE4b
import Derived.Deep.Slices
namespace Go.Proofs.YtegbnadnodlalaaDoor
open Go.ChangeShapes Go.WideShapes Go.ChangeAt Go.RowKit
theorem lcells_u8 : Tryd.prog.cellsOf 5 = 1 := by kernel_rfl
theorem lwf_u8 {n : Int} (h : (Lit.int .u8 n).wf = true) : 0 ≤ n ∧ n ≤ 255 := by
  simp [Lit.wf, IntKind.min, IntKind.max, IntKind.signed, IntKind.bits] at h
  omega
section
variable {H : Type} {enc : TypeId × Value → H}
set_option maxRecDepth 100000 in
theorem open_bytes {W : World} {r : Reach} {base : Nat} {v : Value} {d : DataW H} {ps : List MemPlace} (hval : Value.okWide Tryd.prog W r base 22 v) (hd : DataW.Trod enc Tryd.prog W 0 (fun _ => true) true 22 v d ps) :
    ∃ p c l, v = .slice p (List.length l) c ∧ SB W v l ∧ (∀ x ∈ l, x < 256) ∧ ∀ W' : World, Below W.heap.size W W' → ∀ sp : Nat → Bool, (∀ x ∈ ps, sp x.block = true) → DataW.Trod enc Tryd.prog W' 0 sp true 22 v d ps := by
  obtain ⟨a1, len, cap, rfl⟩ := okWide_slice Tryd.underlying22 hval
  obtain ⟨fuel, hf⟩ := hd
  rcases open_ints Tryd.underlying22 Tryd.underlying5 lcells_u8 hf with ⟨hcs, hx⟩ | ⟨a, len', cap', zs, hcs, hba, hl, hm, hz, hx, hcell, hwz⟩
  · simp [Value.cells] at hcs
    obtain ⟨rfl, rfl, rfl⟩ := hcs
    simp only [Prod.mk.injEq] at hx
    obtain ⟨rfl, rfl⟩ := hx
    exact ⟨none, 0, [], rfl, SB.nil _ _ _, (fun x hx => by cases hx), fun W' _ sp _ => shut_slice_nil Tryd.underlying22⟩
  · simp [Value.cells] at hcs
    obtain ⟨rfl, rfl, rfl⟩ := hcs
    simp only [Prod.mk.injEq] at hx
    obtain ⟨rfl, rfl⟩ := hx
    simp only [if_true] at hz
    have hrange : ∀ i, i < zs.length → 0 ≤ zs.getD i 0 ∧ zs.getD i 0 ≤ 255 := fun i hi => by
      have : zs.getD i 0 = zs[i] := by simp [List.getD, hi]
      rw [this]
      exact lwf_u8 (hwz _ (List.getElem_mem hi))
    obtain ⟨l, hL⟩ : ∃ l : List Nat, l = (List.range len).map fun i => (zs.getD i 0).toNat := ⟨_, rfl⟩
    have ll : l.length = len := by rw [hL]; simp
    have bl : ∀ x ∈ l, x < 256 := fun x hx => by
      rw [hL] at hx
      obtain ⟨i, hi, rfl⟩ := List.mem_map.1 hx
      have := hrange i (by have := List.mem_range.1 hi; omega)
      omega
    refine ⟨some a, cap, l, by rw [ll], ⟨some a, cap, by rw [ll], by rw [ll]; exact hl, ?_⟩, bl, ?_⟩
    · by_cases h0 : len = 0
      · exact Or.inl (List.eq_nil_of_length_eq_zero (by omega))
      · right
        obtain ⟨b, off, spot⟩ := a
        have hspot : spot = none := by simpa [Addr.add] using World.cell?_spot (hcell 0 (by omega))
        subst hspot
        have hc : ∀ i, i < zs.length → W.cell? ⟨b, off + i, none⟩ = some (.int .u8 (zs.getD i 0)) := fun i hi => by
          have := hcell i hi
          rw [Addr.add_lit] at this
          exact this
        refine ⟨b, off, rfl, fun i hi => ?_, World.block_lt_of_cell? _ _ (hc 0 (by omega))⟩
        have hr := hrange i (by omega)
        rw [hc i (by omega)]
        congr 2
        have : l[i] = (zs.getD i 0).toNat := by simp only [hL, List.getElem_map, List.getElem_range]
        omega
    · intro W' hb sp hsp
      refine ⟨2, shut_ints 0 Tryd.underlying22 Tryd.underlying5 lcells_u8 (Nat.zero_le _) hl hm ?_ ?_ hwz⟩
      · by_cases h0 : cap = 0
        · have : len = 0 := by omega
          rw [hz, h0, this]
          simp
        · have : sp a.block = true := hsp (.cell a.block (a.off + 0)) (by
            simp only [MemPlace.row, List.mem_map, List.mem_range]
            exact ⟨0, by omega, rfl⟩)
          rw [this, hz]
          simp
      · intro i hi
        rw [← hcell i hi]
        refine hb.cell ?_
        have := World.block_lt_of_cell? _ _ (hcell i hi)
        exact this
end
end Go.Proofs.YtegbnadnodlalaaDoor
namespace Go.Proofs.YtegbnadnodlalaaDoor
open Go.ChangeShapes Go.WideShapes Go.ChangeAt Go.RowKit
theorem cells_sl : Tryd.prog.cellsOf 22 = 1 := by kernel_rfl
section
variable {H : Type} {enc : TypeId × Value → H} {W : World}
set_option maxRecDepth 100000 in
theorem bytes_f {fuel : Nat} {cs : List Value} {x : DataW H × List MemPlace} (hf : DataW.trod enc Tryd.prog W 0 (fun _ => true) true fuel 22 cs = some x) :
    ∃ p c l, cs = [.slice p (List.length l) c] ∧ SB W (.slice p l.length c) l ∧ Bytes l := by
  rcases open_ints Tryd.underlying22 Tryd.underlying5 lcells_u8 hf with ⟨hcs, hx⟩ | ⟨a, len, cap, zs, hcs, hba, hl, hm, hz, hx, hcell, hwz⟩
  · exact ⟨none, 0, [], hcs, SB.nil _ _ _, fun x hx => by cases hx⟩
  · simp only [if_true] at hz
    have hrange : ∀ i, i < zs.length → 0 ≤ zs.getD i 0 ∧ zs.getD i 0 ≤ 255 := fun i hi => by
      have : zs.getD i 0 = zs[i] := by simp [List.getD, hi]
      rw [this]
      exact lwf_u8 (hwz _ (List.getElem_mem hi))
    obtain ⟨l, hL⟩ : ∃ l : List Nat, l = (List.range len).map fun i => (zs.getD i 0).toNat := ⟨_, rfl⟩
    have ll : l.length = len := by rw [hL]; simp
    have bl : Bytes l := fun x hx => by
      rw [hL] at hx
      obtain ⟨i, hi, rfl⟩ := List.mem_map.1 hx
      have := hrange i (by have := List.mem_range.1 hi; omega)
      omega
    refine ⟨some a, cap, l, by rw [ll]; exact hcs, ⟨some a, cap, rfl, by rw [ll]; exact hl, ?_⟩, bl⟩
    by_cases h0 : len = 0
    · exact Or.inl (List.eq_nil_of_length_eq_zero (by omega))
    · right
      obtain ⟨b, off, spot⟩ := a
      have hspot : spot = none := by simpa [Addr.add] using World.cell?_spot (hcell 0 (by omega))
      subst hspot
      have hc : ∀ i, i < zs.length → W.cell? ⟨b, off + i, none⟩ = some (.int .u8 (zs.getD i 0)) := fun i hi => by
        have := hcell i hi
        rw [Addr.add_lit] at this
        exact this
      refine ⟨b, off, rfl, fun i hi => ?_, World.block_lt_of_cell? _ _ (hc 0 (by omega))⟩
      have hr := hrange i (by omega)
      rw [hc i (by omega)]
      congr 2
      have : l[i] = (zs.getD i 0).toNat := by simp only [hL, List.getElem_map, List.getElem_range]
      omega
/-- A slice of slices of bytes, place by place. -/
def LA (W : World) (p : Option Addr) (ls : List (List Nat)) : Prop := ∀ j l, ls[j]? = some l → ∃ g o q k, p = some ⟨g, o, none⟩ ∧ g < W.heap.size ∧ W.cell? ⟨g, o + j, none⟩ = some (.slice q l.length k) ∧ SB W (.slice q l.length k) l ∧ Bytes l
set_option maxRecDepth 100000 in
theorem open_lists {r : Reach} {base : Nat} {v : Value} {d : DataW H} {ps : List MemPlace} (hval : Value.okWide Tryd.prog W r base 40 v) (hd : DataW.Trod enc Tryd.prog W 0 (fun _ => true) true 40 v d ps) :
    ∃ p c ls, v = .slice p (List.length ls) c ∧ LA W p ls := by
  obtain ⟨a1, len, cap, rfl⟩ := okWide_slice Tryd.underlying40 hval
  obtain ⟨fuel, hf⟩ := hd
  rcases Deep.open_slice1 Tryd.underlying40 cells_sl hf with ⟨hcs, hx⟩ | ⟨a, len', cap', m, n, V, D, Pl, hcs, hba, hl, hm, hmm, hx, hel⟩
  · simp [Value.cells] at hcs
    obtain ⟨rfl, rfl, rfl⟩ := hcs
    exact ⟨none, 0, [], rfl, fun j l h => by cases h⟩
  · simp [Value.cells] at hcs
    obtain ⟨rfl, rfl, rfl⟩ := hcs
    simp only [if_true] at hmm
    have each : ∀ i, i < len → ∃ l : List Nat, ∃ q k, W.cell? (a.add i) = some (.slice q l.length k) ∧ SB W (.slice q l.length k) l ∧ Bytes l := fun i hi => by
      obtain ⟨h1, h2⟩ := hel i (by omega)
      obtain ⟨q, k, l, h3, h4, h5⟩ := bytes_f h2
      simp only [List.cons.injEq, and_true] at h3
      exact ⟨l, q, k, by rw [h1, h3], h4, h5⟩
    obtain ⟨Fq, hF⟩ := Deep.choose_lt (α := List Nat) each
    refine ⟨some a, cap, (List.range len).map Fq, by simp, fun j l h => ?_⟩
    have hj : j < len := by
      have := (List.getElem?_eq_some_iff.1 h).1
      simpa using this
    simp only [List.getElem?_map, List.getElem?_range hj, Option.map_some, Option.some.injEq] at h
    subst h
    obtain ⟨q, k, h1, h2, h3⟩ := hF j hj
    obtain ⟨b, off, spot⟩ := a
    obtain ⟨q0, k0, h9, _⟩ := hF 0 (by omega)
    have hspot : spot = none := by simpa [Addr.add] using World.cell?_spot h9
    subst hspot
    rw [Addr.add_lit] at h1
    exact ⟨b, off, q, k, rfl, World.block_lt_of_cell? _ _ h1, h1, h2, h3⟩
end
theorem rows_h (l : List Nat) (bl : Bytes l) (pk : Option Addr) (ck : Nat) (ls : List (List Nat)) (pl : Option Addr) (cl : Nat) (W : World) (hk : SB W (.slice pk l.length ck) l) (hl : LA W pl ls) (AW : AwakeC W) :
    Calls Tryd.prog 5 #[.slice pk l.length ck, .slice pl ls.length cl] W fun e w' => e = .returned (.bool true) ∧ Below W.heap.size W w' := by
  refine rows_c ((l.zip ls).take 20) pk l.length ck pl ls.length cl _ rfl (by simp only [List.length_take, List.length_zip]; omega) W (fun j z hz => ?_) AW
  have hj20 : j < 20 := by
    have := (List.getElem?_eq_some_iff.1 hz).1
    simp only [List.length_take] at this
    omega
  rw [List.getElem?_take, if_pos hj20, List.getElem?_zip_eq_some] at hz
  obtain ⟨h1, h2⟩ := hz
  have lj := (List.getElem?_eq_some_iff.1 h1).1
  obtain ⟨g, o, q, k, e, lg, hc, hs, hb⟩ := hl j _ h2
  refine ⟨?_, ⟨g, o, q, k, e, lg, hc, hs⟩, bl _ (List.mem_of_getElem? h1), hb⟩
  rcases hk.at_ with h0 | ⟨g', o', e', A⟩
  · omega
  · refine ⟨g', o', e', A.blk, ?_⟩
    rw [A.cell j lj, (List.getElem?_eq_some_iff.1 h1).2]
end Go.Proofs.YtegbnadnodlalaaDoor
namespace Go.Proofs.YtegbnadnodlalaaDoor
open Go.ChangeShapes Go.WideShapes Go.ChangeAt Go.RowKit
section
variable {H : Type} {enc : TypeId × Value → H}
theorem args_stay {P : Program} (hl : laidOutB P = true) {W W' : World} (hb : Below W.heap.size W W') (sp : Nat → Bool) :
    ∀ {ts : List TypeId} {vs : List Value} {ds : List (DataW H)} {ps : List MemPlace}, (∀ t ∈ ts, P.readableRec t = true ∧ t < P.types.size) → DataW.TrodAll enc P W 0 (fun _ => true) true ts vs ds ps →
      (∀ x ∈ ps, x.block < W.heap.size) → (∀ x ∈ ps, sp x.block = true) → DataW.TrodAll enc P W' 0 sp true ts vs ds ps
  | [], _, _, _, _, h, _, _ => by
    obtain ⟨rfl, rfl, rfl⟩ := trodAll_nil h
    exact rfl
  | t :: ts, _, _, _, hr, h, hlt, hsp => by
    obtain ⟨v, vs1, d, ds1, a, b, rfl, rfl, rfl, h1, h2⟩ := trodAll_cons h
    exact ⟨a, b, WideElems.Trod_stays hl (hr t (by simp)).1 (hr t (by simp)).2 h1 (fun x hx => hb.same (hlt x (by simp [hx]))) (fun x hx => hsp x (by simp [hx])),
      args_stay hl hb sp (fun t ht => hr t (by simp [ht])) h2 (fun x hx => hlt x (by simp [hx])) (fun x hx => hsp x (by simp [hx])), rfl⟩
/-- The row's last step where the call leaves what was there as it was, whatever the arguments are. -/
theorem post_reads {P : Program} {f : Func} {s : ChangeSpec} {apart fresh handsOn again : Bool} {W W' : World} {args : Array Value} {v : Value} {ds gs : List (DataW H)} {before pv : List MemPlace}
    (hl : laidOutB P = true) (hr : ∀ t ∈ f.params.toList, P.readableRec t = true ∧ t < P.types.size)
    (hW : DataW.Whole enc P f.params.toList s.vars apart W args.toList ds gs before)
    (hA : DataW.TrodAll enc P W 0 (fun _ => true) true f.params.toList args.toList ds before)
    (hres : ∀ (b : Nat) (sp : Nat → Bool) (hd : Bool), DataW.TrodAll enc P W' b sp hd f.resultTypes.toList (v.resultList f.resultTypes.size) (s.fn H (ds ++ gs)).results [])
    (hargs : (s.fn H (ds ++ gs)).args = ds)
    (hvars : ∀ sp : Nat → Bool, DataW.TrodVars enc P W' sp s.vars (s.fn H (ds ++ gs)).vars pv) (hpv : pv = []) (hb : Below W.heap.size W W')
    (hok : ∀ (j : Nat) (t : TypeId) (r : Value), f.resultTypes[j]? = some t → (v.resultList f.resultTypes.size)[j]? = some r → Value.okWide P W' .any 0 t r) :
    s.post enc P f apart fresh handsOn again W args v W' := by
  have hlt : ∀ p ∈ before, p.block < W.heap.size := fun p hp => hW.lt p hp
  have hold : ∀ p ∈ before, (fun b => decide (b < W.heap.size)) p.block = true := fun p hp => by simpa using hlt p hp
  refine ⟨ds, gs, before, [], before, pv, hW, hres _ _ _, hargs.symm ▸ args_stay hl hb _ hr hA hlt hold, hvars _, World.keptBut_mono (fun p hp => ⟨hp, Or.inr (Or.inl hp)⟩) (hb.frame (· ∈ before)), fun _ => ?_⟩
  obtain ⟨_, _, _, _, _, hz, hn⟩ := hW
  refine ⟨hok, _, _, ([] ++ before) ++ pv, ⟨[] ++ before, pv, trodAll_append (hargs.symm ▸ args_stay hl hb _ hr hA hlt (fun _ _ => rfl)) (hres _ _ _), hvars _, rfl, ?_, ?_⟩, ?_⟩
  · intro b off hp
    have hin : MemPlace.cell b off ∈ before := by simpa [hpv] using hp
    rw [hb.frozen (hlt _ hin)]
    exact hz b off hin
  · intro ha
    simpa [hpv] using hn ha
  · intro p hp _
    simpa [hpv] using hp
end
end Go.Proofs.YtegbnadnodlalaaDoor
