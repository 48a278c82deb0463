/- Slices of bytes opened and shut; a row's last step (printed by genyd.py). Arguments that are only read: read again behind the call, unopened. Keys, bytes, strings handed in, opened (printed by gen15/fn.py). The reference's tables, out of the rows' own condition: the same roots. -/
import Derived.Test.YtdmhngkedgkndaaDoorBg
import Derived.ProofKit
import Derived.OpenShut
import Derived.DataShut
import Derived.ChangeSame
import Derived.JoinedOf
import Derived.JoinedAt
import Derived.RowKit3
import Derived.Carry
import Derived.ChangeSlices
import Derived.Test.YtdmhngkedgkndaaDoorF2a
import Derived.ChangeArms
import Derived.Deep.Slices
import Derived.Test.YtdmhngkedgkndaaDoorMSb0MSd
import Derived.Test.YtdmhngkedgkndaaDoorKQa0KQc
namespace Go.Proofs.YtdmhngkedgkndaaDoor
open Go.ChangeShapes Go.WideShapes Go.ChangeAt Go.RowKit
theorem cells_u8 : Tryd.prog.cellsOf 5 = 1 := by kernel_rfl
theorem wf_u8 {n : Int} (h : (Lit.int .u8 n).wf = true) : 0 ≤ n ∧ n ≤ 255 := by
  simp [Lit.wf, IntKind.min, IntKind.max, IntKind.signed, IntKind.bits] at h
  omega
section
variable {H : Type} {enc : TypeId × Value → H}
/-- The row's last step where the call leaves what was there as it was, and an argument may have spare room. -/
theorem post_below2 {P : Program} {f : Func} {s : ChangeSpec} {apart fresh handsOn again : Bool} {W W' : World} {args : Array Value} {v : Value} {ds gs : List (DataW H)} {before pa pv : List MemPlace}
    (hW : DataW.Whole enc P f.params.toList s.vars apart W args.toList ds gs before)
    (hres : ∀ (b : Nat) (sp : Nat → Bool) (hd : Bool), DataW.TrodAll enc P W' b sp hd f.resultTypes.toList (v.resultList f.resultTypes.size) (s.fn H (ds ++ gs)).results [])
    (hargs : ∀ sp : Nat → Bool, (∀ p ∈ before, sp p.block = true) → DataW.TrodAll enc P W' 0 sp true f.params.toList args.toList (s.fn H (ds ++ gs)).args pa)
    (hvars : ∀ sp : Nat → Bool, (∀ p ∈ before, sp p.block = true) → DataW.TrodVars enc P W' sp s.vars (s.fn H (ds ++ gs)).vars pv)
    (hps : before = pa ++ pv) (hb : Below W.heap.size W W')
    (hok : ∀ (j : Nat) (t : TypeId) (r : Value), f.resultTypes[j]? = some t → (v.resultList f.resultTypes.size)[j]? = some r → Value.okWide P W' .any 0 t r) :
    s.post enc P f apart fresh handsOn again W args v W' := by
  have hlt : ∀ p ∈ before, p.block < W.heap.size := fun p hp => hW.lt p hp
  have hold : ∀ p ∈ before, (fun b => decide (b < W.heap.size)) p.block = true := fun p hp => by simpa using hlt p hp
  refine ⟨ds, gs, before, [], pa, pv, hW, hres _ _ _, hargs _ hold, hvars _ hold, World.keptBut_mono (fun p hp => ⟨hp, ?_⟩) (hb.frame (· ∈ before)), fun _ => ?_⟩
  · rw [hps, List.mem_append] at hp
    exact Or.inr hp
  · obtain ⟨_, _, _, _, _, hz, hn⟩ := hW
    refine ⟨hok, _, _, ([] ++ pa) ++ pv, ⟨[] ++ pa, pv, trodAll_append (hargs _ (fun _ _ => rfl)) (hres _ _ _), hvars _ (fun _ _ => rfl), rfl, ?_, ?_⟩, ?_⟩
    · intro b off hp
      have hin : MemPlace.cell b off ∈ before := by rw [hps]; simpa using hp
      rw [hb.frozen (hlt _ hin)]
      exact hz b off hin
    · intro ha
      have := hn ha
      rw [hps] at this
      simpa using this
    · intro p hp _
      rw [hps]
      simpa using hp
set_option maxRecDepth 100000 in
theorem open_bytes {W : World} {r : Reach} {base : Nat} {v : Value} {d : DataW H} {ps : List MemPlace} (hval : Value.okWide Tryd.prog W r base 22 v) (hd : DataW.Trod enc Tryd.prog W 0 (fun _ => true) true 22 v d ps) :
    ∃ p c l, v = .slice p (List.length l) c ∧ SB W v l ∧ (∀ x ∈ l, x < 256) ∧ ∀ W' : World, Below W.heap.size W W' → ∀ sp : Nat → Bool, (∀ x ∈ ps, sp x.block = true) → DataW.Trod enc Tryd.prog W' 0 sp true 22 v d ps := by
  obtain ⟨a1, len, cap, rfl⟩ := okWide_slice Tryd.underlying22 hval
  obtain ⟨fuel, hf⟩ := hd
  rcases open_ints Tryd.underlying22 Tryd.underlying5 cells_u8 hf with ⟨hcs, hx⟩ | ⟨a, len', cap', zs, hcs, hba, hl, hm, hz, hx, hcell, hwz⟩
  · simp [Value.cells] at hcs
    obtain ⟨rfl, rfl, rfl⟩ := hcs
    simp only [Prod.mk.injEq] at hx
    obtain ⟨rfl, rfl⟩ := hx
    exact ⟨none, 0, [], rfl, SB.nil _ _ _, (fun x hx => by cases hx), fun W' _ sp _ => shut_slice_nil Tryd.underlying22⟩
  · simp [Value.cells] at hcs
    obtain ⟨rfl, rfl, rfl⟩ := hcs
    simp only [Prod.mk.injEq] at hx
    obtain ⟨rfl, rfl⟩ := hx
    simp only [if_true] at hz
    have hrange : ∀ i, i < zs.length → 0 ≤ zs.getD i 0 ∧ zs.getD i 0 ≤ 255 := fun i hi => by
      have : zs.getD i 0 = zs[i] := by simp [List.getD, hi]
      rw [this]
      exact wf_u8 (hwz _ (List.getElem_mem hi))
    obtain ⟨l, hL⟩ : ∃ l : List Nat, l = (List.range len).map fun i => (zs.getD i 0).toNat := ⟨_, rfl⟩
    have ll : l.length = len := by rw [hL]; simp
    have bl : ∀ x ∈ l, x < 256 := fun x hx => by
      rw [hL] at hx
      obtain ⟨i, hi, rfl⟩ := List.mem_map.1 hx
      have := hrange i (by have := List.mem_range.1 hi; omega)
      omega
    refine ⟨some a, cap, l, by rw [ll], ⟨some a, cap, by rw [ll], by rw [ll]; exact hl, ?_⟩, bl, ?_⟩
    · by_cases h0 : len = 0
      · exact Or.inl (List.eq_nil_of_length_eq_zero (by omega))
      · right
        obtain ⟨b, off, spot⟩ := a
        have hspot : spot = none := by simpa [Addr.add] using World.cell?_spot (hcell 0 (by omega))
        subst hspot
        have hc : ∀ i, i < zs.length → W.cell? ⟨b, off + i, none⟩ = some (.int .u8 (zs.getD i 0)) := fun i hi => by
          have := hcell i hi
          rw [Addr.add_lit] at this
          exact this
        refine ⟨b, off, rfl, fun i hi => ?_, World.block_lt_of_cell? _ _ (hc 0 (by omega))⟩
        have hr := hrange i (by omega)
        rw [hc i (by omega)]
        congr 2
        have : l[i] = (zs.getD i 0).toNat := by simp only [hL, List.getElem_map, List.getElem_range]
        omega
    · intro W' hb sp hsp
      refine ⟨2, shut_ints 0 Tryd.underlying22 Tryd.underlying5 cells_u8 (Nat.zero_le _) hl hm ?_ ?_ hwz⟩
      · by_cases h0 : cap = 0
        · have : len = 0 := by omega
          rw [hz, h0, this]
          simp
        · have : sp a.block = true := hsp (.cell a.block (a.off + 0)) (by
            simp only [MemPlace.row, List.mem_map, List.mem_range]
            exact ⟨0, by omega, rfl⟩)
          rw [this, hz]
          simp
      · intro i hi
        rw [← hcell i hi]
        refine hb.cell ?_
        have := World.block_lt_of_cell? _ _ (hcell i hi)
        exact this
end
end Go.Proofs.YtdmhngkedgkndaaDoor
namespace Go.Proofs.YtdmhngkedgkndaaDoor
open Go.ChangeShapes Go.WideShapes Go.ChangeAt Go.RowKit
section
variable {H : Type} {enc : TypeId × Value → H}
theorem args_stay {P : Program} (hl : laidOutB P = true) {W W' : World} (hb : Below W.heap.size W W') (sp : Nat → Bool) :
    ∀ {ts : List TypeId} {vs : List Value} {ds : List (DataW H)} {ps : List MemPlace}, (∀ t ∈ ts, P.readableRec t = true ∧ t < P.types.size) → DataW.TrodAll enc P W 0 (fun _ => true) true ts vs ds ps →
      (∀ x ∈ ps, x.block < W.heap.size) → (∀ x ∈ ps, sp x.block = true) → DataW.TrodAll enc P W' 0 sp true ts vs ds ps
  | [], _, _, _, _, h, _, _ => by
    obtain ⟨rfl, rfl, rfl⟩ := trodAll_nil h
    exact rfl
  | t :: ts, _, _, _, hr, h, hlt, hsp => by
    obtain ⟨v, vs1, d, ds1, a, b, rfl, rfl, rfl, h1, h2⟩ := trodAll_cons h
    exact ⟨a, b, WideElems.Trod_stays hl (hr t (by simp)).1 (hr t (by simp)).2 h1 (fun x hx => hb.same (hlt x (by simp [hx]))) (fun x hx => hsp x (by simp [hx])),
      args_stay hl hb sp (fun t ht => hr t (by simp [ht])) h2 (fun x hx => hlt x (by simp [hx])) (fun x hx => hsp x (by simp [hx])), rfl⟩
/-- The row's last step where the call leaves what was there as it was, whatever the arguments are. -/
theorem post_reads {P : Program} {f : Func} {s : ChangeSpec} {apart fresh handsOn again : Bool} {W W' : World} {args : Array Value} {v : Value} {ds gs : List (DataW H)} {before pv : List MemPlace}
    (hl : laidOutB P = true) (hr : ∀ t ∈ f.params.toList, P.readableRec t = true ∧ t < P.types.size)
    (hW : DataW.Whole enc P f.params.toList s.vars apart W args.toList ds gs before)
    (hA : DataW.TrodAll enc P W 0 (fun _ => true) true f.params.toList args.toList ds before)
    (hres : ∀ (b : Nat) (sp : Nat → Bool) (hd : Bool), DataW.TrodAll enc P W' b sp hd f.resultTypes.toList (v.resultList f.resultTypes.size) (s.fn H (ds ++ gs)).results [])
    (hargs : (s.fn H (ds ++ gs)).args = ds)
    (hvars : ∀ sp : Nat → Bool, DataW.TrodVars enc P W' sp s.vars (s.fn H (ds ++ gs)).vars pv) (hpv : pv = []) (hb : Below W.heap.size W W')
    (hok : ∀ (j : Nat) (t : TypeId) (r : Value), f.resultTypes[j]? = some t → (v.resultList f.resultTypes.size)[j]? = some r → Value.okWide P W' .any 0 t r) :
    s.post enc P f apart fresh handsOn again W args v W' := by
  have hlt : ∀ p ∈ before, p.block < W.heap.size := fun p hp => hW.lt p hp
  have hold : ∀ p ∈ before, (fun b => decide (b < W.heap.size)) p.block = true := fun p hp => by simpa using hlt p hp
  refine ⟨ds, gs, before, [], before, pv, hW, hres _ _ _, hargs.symm ▸ args_stay hl hb _ hr hA hlt hold, hvars _, World.keptBut_mono (fun p hp => ⟨hp, Or.inr (Or.inl hp)⟩) (hb.frame (· ∈ before)), fun _ => ?_⟩
  obtain ⟨_, _, _, _, _, hz, hn⟩ := hW
  refine ⟨hok, _, _, ([] ++ before) ++ pv, ⟨[] ++ before, pv, trodAll_append (hargs.symm ▸ args_stay hl hb _ hr hA hlt (fun _ _ => rfl)) (hres _ _ _), hvars _, rfl, ?_, ?_⟩, ?_⟩
  · intro b off hp
    have hin : MemPlace.cell b off ∈ before := by simpa [hpv] using hp
    rw [hb.frozen (hlt _ hin)]
    exact hz b off hin
  · intro ha
    simpa [hpv] using hn ha
  · intro p hp _
    simpa [hpv] using hp
end
end Go.Proofs.YtdmhngkedgkndaaDoor
namespace Go.Proofs.YtdmhngkedgkndaaDoor
open Go.ChangeShapes Go.WideShapes Go.ChangeAt Go.RowKit
theorem cells_key : Tryd.prog.cellsOf 28 = 32 := by kernel_rfl
theorem cells_bytes : Tryd.prog.cellsOf 22 = 1 := by kernel_rfl
section
variable {H : Type} {enc : TypeId × Value → H} {W : World}
theorem trodAll_five {P : Program} {w : World} {base : Nat} {spare : Nat → Bool} {held : Bool} {t0 t1 t2 t3 t4 : TypeId} {args : Array Value} {ds : List (DataW H)} {ps : List MemPlace} (h : DataW.TrodAll enc P w base spare held [t0, t1, t2, t3, t4] args.toList ds ps) :
    ∃ v0 v1 v2 v3 v4 d0 d1 d2 d3 d4 p0 p1 p2 p3 p4, args = #[v0, v1, v2, v3, v4] ∧ ds = [d0, d1, d2, d3, d4] ∧ ps = p0 ++ (p1 ++ (p2 ++ (p3 ++ p4))) ∧ DataW.Trod enc P w base spare held t0 v0 d0 p0 ∧ DataW.Trod enc P w base spare held t1 v1 d1 p1 ∧ DataW.Trod enc P w base spare held t2 v2 d2 p2 ∧ DataW.Trod enc P w base spare held t3 v3 d3 p3 ∧ DataW.Trod enc P w base spare held t4 v4 d4 p4 := by
  obtain ⟨v0, r0, d0, e0, p0, q0, hargs, rfl, rfl, h0, h⟩ := trodAll_cons h
  obtain ⟨v1, r1, d1, e1, p1, q1, rfl, rfl, rfl, h1, h⟩ := trodAll_cons h
  obtain ⟨v2, r2, d2, e2, p2, q2, rfl, rfl, rfl, h2, h⟩ := trodAll_cons h
  obtain ⟨v3, r3, d3, e3, p3, q3, rfl, rfl, rfl, h3, h⟩ := trodAll_cons h
  obtain ⟨v4, r4, d4, e4, p4, q4, rfl, rfl, rfl, h4, h⟩ := trodAll_cons h
  obtain ⟨rfl, rfl, rfl⟩ := trodAll_nil h
  exact ⟨v0, v1, v2, v3, v4, d0, d1, d2, d3, d4, p0, p1, p2, p3, p4, by cases args; simp_all, rfl, by simp, h0, h1, h2, h3, h4⟩
/-- Seven parameters. -/
theorem bytes_f {fuel : Nat} {cs : List Value} {x : DataW H × List MemPlace} (hf : DataW.trod enc Tryd.prog W 0 (fun _ => true) true fuel 22 cs = some x) :
    ∃ p c l, cs = [.slice p (List.length l) c] ∧ SB W (.slice p l.length c) l ∧ ∀ x ∈ l, x < 256 := by
  rcases open_ints Tryd.underlying22 Tryd.underlying5 cells_u8 hf with ⟨hcs, hx⟩ | ⟨a, len, cap, zs, hcs, hba, hl, hm, hz, hx, hcell, hwz⟩
  · exact ⟨none, 0, [], hcs, SB.nil _ _ _, fun x hx => by cases hx⟩
  · simp only [if_true] at hz
    have hrange : ∀ i, i < zs.length → 0 ≤ zs.getD i 0 ∧ zs.getD i 0 ≤ 255 := fun i hi => by
      have : zs.getD i 0 = zs[i] := by simp [List.getD, hi]
      rw [this]
      exact wf_u8 (hwz _ (List.getElem_mem hi))
    obtain ⟨l, hL⟩ : ∃ l : List Nat, l = (List.range len).map fun i => (zs.getD i 0).toNat := ⟨_, rfl⟩
    have ll : l.length = len := by rw [hL]; simp
    have bl : ∀ x ∈ l, x < 256 := fun x hx => by
      rw [hL] at hx
      obtain ⟨i, hi, rfl⟩ := List.mem_map.1 hx
      have := hrange i (by have := List.mem_range.1 hi; omega)
      omega
    refine ⟨some a, cap, l, by rw [ll]; exact hcs, ⟨some a, cap, rfl, by rw [ll]; exact hl, ?_⟩, bl⟩
    by_cases h0 : len = 0
    · exact Or.inl (List.eq_nil_of_length_eq_zero (by omega))
    · right
      obtain ⟨b, off, spot⟩ := a
      have hspot : spot = none := by simpa [Addr.add] using World.cell?_spot (hcell 0 (by omega))
      subst hspot
      have hc : ∀ i, i < zs.length → W.cell? ⟨b, off + i, none⟩ = some (.int .u8 (zs.getD i 0)) := fun i hi => by
        have := hcell i hi
        rw [Addr.add_lit] at this
        exact this
      refine ⟨b, off, rfl, fun i hi => ?_, World.block_lt_of_cell? _ _ (hc 0 (by omega))⟩
      have hr := hrange i (by omega)
      rw [hc i (by omega)]
      congr 2
      have : l[i] = (zs.getD i 0).toNat := by simp only [hL, List.getElem_map, List.getElem_range]
      omega
set_option maxRecDepth 100000 in
theorem key_f {fuel : Nat} {base : Nat} {sp : Nat → Bool} {held : Bool} {cs : List Value} {x : DataW H × List MemPlace} (hlen : cs.length = 32) (hf : DataW.trod enc Tryd.prog W base sp held fuel 28 cs = some x) :
    ∃ l, cs = (NI l).map (Value.int .u8) ∧ l.length = 32 ∧ Bytes l := by
  obtain ⟨xs, m, rfl, hx, hlen2, hn, hel⟩ := DataW.trod_array Tryd.underlying28 hf
  have hel2 : ∀ i, i < 32 → ∃ n, cs[i]? = some (.int .u8 n) ∧ (Lit.int .u8 n).wf = true := by
    intro i hi
    have h0 := hel i hi
    rw [cells_u8, Nat.mul_one] at h0
    cases hxi : xs[i]? with
    | none => rw [List.getElem?_eq_none_iff] at hxi; omega
    | some y =>
      rw [hxi] at h0
      obtain ⟨n, hc, rfl, hw⟩ := DataW.trod_int Tryd.underlying5 h0
      refine ⟨n, ?_, hw⟩
      have h5 : ((cs.drop i).take 1).head? = some (.int .u8 n) := by rw [hc]; rfl
      rw [List.head?_take, if_neg (by decide), List.head?_drop] at h5
      exact h5
  obtain ⟨l, hl⟩ : ∃ l : List Nat, l = (List.range 32).map fun i => match cs[i]? with | some (.int .u8 n) => n.toNat | _ => 0 := ⟨_, rfl⟩
  have hlen8 : l.length = 32 := by simp [hl]
  have hget : ∀ i (_ : i < 32), cs[i]? = some (.int .u8 ((l.getD i 0 : Nat) : Int)) ∧ l.getD i 0 < 256 := by
    intro i h
    obtain ⟨n, h1, h3⟩ := hel2 i h
    have hn := wf_u8 h3
    have : ((l.getD i 0 : Nat) : Int) = n := by
      rw [hl]
      simp [h, h1]
      omega
    rw [this]
    exact ⟨h1, by omega⟩
  refine ⟨l, ?_, hlen8, fun x hx => ?_⟩
  · refine List.ext_getElem? fun i => ?_
    by_cases hi : i < 32
    · rw [(hget i hi).1]
      simp [NI, List.getD_eq_getElem?_getD, show i < l.length by omega]
    · rw [List.getElem?_eq_none (by omega), List.getElem?_eq_none (by simp [NI]; omega)]
  · obtain ⟨i, hi, rfl⟩ := List.mem_iff_getElem.1 hx
    have := (hget i (by omega)).2
    rw [List.getD_eq_getElem?_getD, List.getElem?_eq_getElem hi] at this
    exact this
set_option maxRecDepth 100000 in
theorem open_key32 {r : Reach} {b0 base : Nat} {sp : Nat → Bool} {held : Bool} {v : Value} {d : DataW H} {ps : List MemPlace}
    (hval : Value.okWide Tryd.prog W r b0 28 v) (hd : DataW.Trod enc Tryd.prog W base sp held 28 v d ps) :
    ∃ l, v = .agg (Iv .u8 (NI l)) ∧ l.length = 32 ∧ Bytes l := by
  obtain ⟨cs, rfl, hsz, _⟩ : ∃ cs, v = .agg cs ∧ cs.size = Tryd.prog.cellsOf 28 ∧ Row.okWide Tryd.prog W r b0 28 cs := by
    simpa [Value.okWide, Tryd.underlying28] using hval
  rw [cells_key] at hsz
  obtain ⟨fuel, hf⟩ := hd
  have hf' : DataW.trod enc Tryd.prog W base sp held fuel 28 cs.toList = some (d, ps) := by simpa [Value.cells] using hf
  obtain ⟨l, e, hl, hb⟩ := key_f (by simpa using hsz) hf'
  refine ⟨l, ?_, hl, hb⟩
  congr 1
  apply Array.toList_inj.1
  rw [e]
  simp [Iv]
end
end Go.Proofs.YtdmhngkedgkndaaDoor
namespace Go.Proofs.YtdmhngkedgkndaaDoor
open Go.RowKit Go.ChangeShapes Go.WideShapes Go.ChangeAt Go.WideMaps Go.WideElems
theorem th_data : (Rows.laid_skiff_skiffref03_thirds : DataW Unit) = Lib.tabData .u64 cuZ := rfl
theorem se_data : (Rows.laid_skiff_skiffref03_seconds : DataW Unit) = Lib.tabData .u64 sqZ := rfl
theorem gTh : Tryd.prog.globalNamed "skiff/skiffref03.thirds" = some 0 := by kernel_rfl
theorem gSe : Tryd.prog.globalNamed "skiff/skiffref03.seconds" = some 1 := by kernel_rfl
theorem tTh : (Tryd.prog.globals[0]?).map (·.type) = some 60 := by kernel_rfl
theorem tSe : (Tryd.prog.globals[1]?).map (·.type) = some 61 := by kernel_rfl
theorem ref_of_laid {W : World} {x y : String × DataW Unit} {rest : List (String × DataW Unit)} (h : laidMet Tryd.prog (x :: y :: ("skiff/skiffref03.thirds", Rows.laid_skiff_skiffref03_thirds) :: ("skiff/skiffref03.seconds", Rows.laid_skiff_skiffref03_seconds) :: rest) W) : Ref W cuT sqT := by
  have h1 := laidMet.tail (laidMet.tail h)
  have h2 := laidMet.tail h1
  rw [th_data] at h1
  rw [se_data] at h2
  have c := Lib.tabIs_of_head gTh tTh Tryd.underlying60 Tryd.underlying59 (by kernel_rfl) (by kernel_rfl) h1
  have s := Lib.tabIs_of_head gSe tSe Tryd.underlying61 Tryd.underlying59 (by kernel_rfl) (by kernel_rfl) h2
  have sc : ∀ i, i < 8 → W.cell? ⟨1, i, none⟩ = some (.int .u64 ((sqT i : Nat) : Int)) := fun i hi => by
    rw [sqT_int]
    exact s.cell gSe i (by rw [sqZ_length]; exact hi)
  have cc : ∀ i, i < 80 → W.cell? ⟨0, i, none⟩ = some (.int .u64 ((cuT i : Nat) : Int)) := fun i hi => by
    rw [cuT_int]
    exact c.cell gTh i (by rw [cuZ_length]; exact hi)
  exact ⟨cc, sc, fun i => by have := getD_all cuZ_all i; have := cuT_int i; omega, fun i => by have := getD_all sqZ_all i; have := sqT_int i; omega, World.block_lt_of_cell? _ _ (cc 0 (by decide)), World.block_lt_of_cell? _ _ (sc 0 (by decide))⟩
theorem door_met4 (os : Os) (args : Array Value) : laidMetH Tryd.prog Rows.secretsPlaysRow.laid ((World.doorLaid Tryd.prog 29 os).forCall (fun _ _ => 0) ⟨#[], args, []⟩).memory :=
  laidMetH_of_parts3 (fuel := 8) (laidMet_of_run' 8 (by kernel_rfl) (by kernel_rfl)) (by kernel_rfl) (by kernel_rfl)
end Go.Proofs.YtdmhngkedgkndaaDoor
