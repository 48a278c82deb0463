/- Slices of bytes opened and shut; a row's last step (printed by genyd.py). Certificates, slices of numbers handed in, opened. Arguments that are only read: read again behind the call, unopened. -/
import Derived.Test.YtegbnadnodlalaaDoorBg0Us
import Derived.ProofKit
import Derived.OpenShut
import Derived.DataShut
import Derived.ChangeSame
import Derived.JoinedOf
import Derived.JoinedAt
import Derived.RowKit3
import Derived.Carry
import Derived.ChangeSlices
import Derived.Test.YtegbnadnodlalaaDoorE9a
import Derived.ChangeArms
import Derived.Deep.Slices
namespace Go.Proofs.YtegbnadnodlalaaDoor
open Go.ChangeShapes Go.WideShapes Go.ChangeAt Go.RowKit
theorem lcells_u8 : Tryd.prog.cellsOf 5 = 1 := by kernel_rfl
theorem lwf_u8 {n : Int} (h : (Lit.int .u8 n).wf = true) : 0 ≤ n ∧ n ≤ 255 := by
  simp [Lit.wf, IntKind.min, IntKind.max, IntKind.signed, IntKind.bits] at h
  omega
section
variable {H : Type} {enc : TypeId × Value → H}
set_option maxRecDepth 100000 in
theorem open_bytes {W : World} {r : Reach} {base : Nat} {v : Value} {d : DataW H} {ps : List MemPlace} (hval : Value.okWide Tryd.prog W r base 22 v) (hd : DataW.Trod enc Tryd.prog W 0 (fun _ => true) true 22 v d ps) :
    ∃ p c l, v = .slice p (List.length l) c ∧ SB W v l ∧ (∀ x ∈ l, x < 256) ∧ ∀ W' : World, Below W.heap.size W W' → ∀ sp : Nat → Bool, (∀ x ∈ ps, sp x.block = true) → DataW.Trod enc Tryd.prog W' 0 sp true 22 v d ps := by
  obtain ⟨a1, len, cap, rfl⟩ := okWide_slice Tryd.underlying22 hval
  obtain ⟨fuel, hf⟩ := hd
  rcases open_ints Tryd.underlying22 Tryd.underlying5 lcells_u8 hf with ⟨hcs, hx⟩ | ⟨a, len', cap', zs, hcs, hba, hl, hm, hz, hx, hcell, hwz⟩
  · simp [Value.cells] at hcs
    obtain ⟨rfl, rfl, rfl⟩ := hcs
    simp only [Prod.mk.injEq] at hx
    obtain ⟨rfl, rfl⟩ := hx
    exact ⟨none, 0, [], rfl, SB.nil _ _ _, (fun x hx => by cases hx), fun W' _ sp _ => shut_slice_nil Tryd.underlying22⟩
  · simp [Value.cells] at hcs
    obtain ⟨rfl, rfl, rfl⟩ := hcs
    simp only [Prod.mk.injEq] at hx
    obtain ⟨rfl, rfl⟩ := hx
    simp only [if_true] at hz
    have hrange : ∀ i, i < zs.length → 0 ≤ zs.getD i 0 ∧ zs.getD i 0 ≤ 255 := fun i hi => by
      have : zs.getD i 0 = zs[i] := by simp [List.getD, hi]
      rw [this]
      exact lwf_u8 (hwz _ (List.getElem_mem hi))
    obtain ⟨l, hL⟩ : ∃ l : List Nat, l = (List.range len).map fun i => (zs.getD i 0).toNat := ⟨_, rfl⟩
    have ll : l.length = len := by rw [hL]; simp
    have bl : ∀ x ∈ l, x < 256 := fun x hx => by
      rw [hL] at hx
      obtain ⟨i, hi, rfl⟩ := List.mem_map.1 hx
      have := hrange i (by have := List.mem_range.1 hi; omega)
      omega
    refine ⟨some a, cap, l, by rw [ll], ⟨some a, cap, by rw [ll], by rw [ll]; exact hl, ?_⟩, bl, ?_⟩
    · by_cases h0 : len = 0
      · exact Or.inl (List.eq_nil_of_length_eq_zero (by omega))
      · right
        obtain ⟨b, off, spot⟩ := a
        have hspot : spot = none := by simpa [Addr.add] using World.cell?_spot (hcell 0 (by omega))
        subst hspot
        have hc : ∀ i, i < zs.length → W.cell? ⟨b, off + i, none⟩ = some (.int .u8 (zs.getD i 0)) := fun i hi => by
          have := hcell i hi
          rw [Addr.add_lit] at this
          exact this
        refine ⟨b, off, rfl, fun i hi => ?_, World.block_lt_of_cell? _ _ (hc 0 (by omega))⟩
        have hr := hrange i (by omega)
        rw [hc i (by omega)]
        congr 2
        have : l[i] = (zs.getD i 0).toNat := by simp only [hL, List.getElem_map, List.getElem_range]
        omega
    · intro W' hb sp hsp
      refine ⟨2, shut_ints 0 Tryd.underlying22 Tryd.underlying5 lcells_u8 (Nat.zero_le _) hl hm ?_ ?_ hwz⟩
      · by_cases h0 : cap = 0
        · have : len = 0 := by omega
          rw [hz, h0, this]
          simp
        · have : sp a.block = true := hsp (.cell a.block (a.off + 0)) (by
            simp only [MemPlace.row, List.mem_map, List.mem_range]
            exact ⟨0, by omega, rfl⟩)
          rw [this, hz]
          simp
      · intro i hi
        rw [← hcell i hi]
        refine hb.cell ?_
        have := World.block_lt_of_cell? _ _ (hcell i hi)
        exact this
end
end Go.Proofs.YtegbnadnodlalaaDoor
namespace Go.Proofs.YtegbnadnodlalaaDoor
open Go.ChangeShapes Go.WideShapes Go.ChangeAt Go.RowKit
theorem cells_k32 : Tryd.prog.cellsOf 34 = 32 := by kernel_rfl
theorem cells_s64 : Tryd.prog.cellsOf 35 = 64 := by kernel_rfl
theorem cells_str : Tryd.prog.cellsOf 9 = 1 := by kernel_rfl
theorem cells_crt : Tryd.prog.cellsOf 37 = 97 := by kernel_rfl
section
variable {H : Type} {enc : TypeId × Value → H} {W : World}
set_option maxRecDepth 100000 in
theorem arr_f {ty : TypeId} {n : Nat} (hu : Tryd.prog.underlying ty = some (.array n 5)) {fuel : Nat} {base : Nat} {sp : Nat → Bool} {held : Bool} {cs : List Value} {x : DataW H × List MemPlace} (hlen : cs.length = n) (hf : DataW.trod enc Tryd.prog W base sp held fuel ty cs = some x) :
    ∃ l, cs = vals l ∧ l.length = n ∧ Bytes l := by
  obtain ⟨xs, m, rfl, hx, hlen2, hn, hel⟩ := DataW.trod_array hu hf
  have hel2 : ∀ i, i < n → ∃ z, cs[i]? = some (.int .u8 z) ∧ (Lit.int .u8 z).wf = true := by
    intro i hi
    have h0 := hel i hi
    rw [lcells_u8, Nat.mul_one] at h0
    cases hxi : xs[i]? with
    | none => rw [List.getElem?_eq_none_iff] at hxi; omega
    | some y =>
      rw [hxi] at h0
      obtain ⟨z, hc, rfl, hw⟩ := DataW.trod_int Tryd.underlying5 h0
      refine ⟨z, ?_, hw⟩
      have h5 : ((cs.drop i).take 1).head? = some (.int .u8 z) := by rw [hc]; rfl
      rw [List.head?_take, if_neg (by decide), List.head?_drop] at h5
      exact h5
  obtain ⟨l, hl⟩ : ∃ l : List Nat, l = (List.range n).map fun i => match cs[i]? with | some (.int .u8 z) => z.toNat | _ => 0 := ⟨_, rfl⟩
  have hlen8 : l.length = n := by simp [hl]
  have hget : ∀ i (_ : i < n), cs[i]? = some (.int .u8 ((l.getD i 0 : Nat) : Int)) ∧ l.getD i 0 < 256 := by
    intro i h
    obtain ⟨z, h1, h3⟩ := hel2 i h
    have hn := lwf_u8 h3
    have : ((l.getD i 0 : Nat) : Int) = z := by
      rw [hl]
      simp [h, h1]
      omega
    rw [this]
    exact ⟨h1, by omega⟩
  refine ⟨l, ?_, hlen8, fun x hx => ?_⟩
  · refine List.ext_getElem? fun i => ?_
    by_cases hi : i < n
    · rw [(hget i hi).1]
      simp [vals, List.getD_eq_getElem?_getD, show i < l.length by omega]
    · rw [List.getElem?_eq_none (by omega), List.getElem?_eq_none (by simp [vals]; omega)]
  · obtain ⟨i, hi, rfl⟩ := List.mem_iff_getElem.1 hx
    have := (hget i (by omega)).2
    rw [List.getD_eq_getElem?_getD, List.getElem?_eq_getElem hi] at this
    exact this
set_option maxRecDepth 100000 in
theorem cert_f {fuel : Nat} {cs : List Value} {x : DataW H × List MemPlace} (hf : DataW.trod enc Tryd.prog W 0 (fun _ => true) true fuel 37 cs = some x) :
    ∃ (t : ByteArray) (k s : List Nat), cs = cerL t k s ∧ k.length = 32 ∧ Bytes k ∧ s.length = 64 ∧ Bytes s := by
  obtain ⟨xs, n, _, _, hlen, hn, hel⟩ := DataW.trod_struct Tryd.underlying37 hf
  rw [cells_crt] at hlen
  match cs, hlen with
  | c :: r, hlen =>
    match xs, hn with
    | [y0, y1, y2], _ =>
      simp only [List.length_cons] at hlen
      have t0 : DataW.trod enc Tryd.prog W 0 (fun _ => true) true n 9 (((c :: r).drop 0).take (Tryd.prog.cellsOf 9)) = some y0 := hel 0 _ rfl
      have t1 : DataW.trod enc Tryd.prog W 0 (fun _ => true) true n 34 (((c :: r).drop 1).take (Tryd.prog.cellsOf 34)) = some y1 := hel 1 _ rfl
      have t2 : DataW.trod enc Tryd.prog W 0 (fun _ => true) true n 35 (((c :: r).drop 33).take (Tryd.prog.cellsOf 35)) = some y2 := hel 2 _ rfl
      simp only [cells_str, List.drop_zero, List.take_succ_cons, List.take_zero] at t0
      simp only [cells_k32, List.drop_succ_cons, List.drop_zero] at t1
      simp only [cells_s64, List.drop_succ_cons] at t2
      obtain ⟨t, e0, _⟩ := DataW.trod_string Tryd.underlying9 t0
      obtain ⟨k, e1, lk, bk⟩ := arr_f Tryd.underlying34 (by rw [List.length_take]; omega) t1
      obtain ⟨s, e2, ls, bs⟩ := arr_f Tryd.underlying35 (by rw [List.length_take, List.length_drop]; omega) t2
      simp only [List.cons.injEq, and_true] at e0
      subst e0
      refine ⟨t, k, s, ?_, lk, bk, ls, bs⟩
      unfold cerL
      rw [← e1, ← e2, List.append_nil, List.take_of_length_le (show (r.drop 32).length ≤ 64 by rw [List.length_drop]; omega), List.take_append_drop]
      rfl
set_option maxRecDepth 100000 in
theorem open_cert {r : Reach} {base : Nat} {v : Value} {d : DataW H} {ps : List MemPlace} (hval : Value.okWide Tryd.prog W r base 37 v) (hd : DataW.Trod enc Tryd.prog W 0 (fun _ => true) true 37 v d ps) :
    ∃ (t : ByteArray) (k s : List Nat), v = .agg (cerV t k s) ∧ k.length = 32 ∧ Bytes k ∧ s.length = 64 ∧ Bytes s := by
  obtain ⟨cs, rfl, _⟩ := okWide_struct Tryd.underlying37 hval
  obtain ⟨fuel, hf⟩ := hd
  obtain ⟨t, k, s, e, h⟩ := cert_f hf
  refine ⟨t, k, s, ?_, h⟩
  congr 1
  apply Array.toList_inj.1
  unfold cerV
  rw [← e]
  simp [Value.cells]
set_option maxRecDepth 100000 in
theorem open_nums {r : Reach} {base : Nat} {v : Value} {d : DataW H} {ps : List MemPlace} (hval : Value.okWide Tryd.prog W r base 38 v) (hd : DataW.Trod enc Tryd.prog W 0 (fun _ => true) true 38 v d ps) :
    ∃ p n c, v = .slice p n c ∧ IA W p n := by
  obtain ⟨a1, len, cap, rfl⟩ := okWide_slice Tryd.underlying38 hval
  obtain ⟨fuel, hf⟩ := hd
  rcases open_ints Tryd.underlying38 Tryd.underlying3 (by kernel_rfl) hf with ⟨hcs, hx⟩ | ⟨a, len', cap', zs, hcs, hba, hl, hm, hz, hx, hcell, hwz⟩
  · simp [Value.cells] at hcs
    obtain ⟨rfl, rfl, rfl⟩ := hcs
    exact ⟨none, 0, 0, rfl, fun j hj => absurd hj (Nat.not_lt_zero _)⟩
  · simp [Value.cells] at hcs
    obtain ⟨rfl, rfl, rfl⟩ := hcs
    simp only [if_true] at hz
    refine ⟨_, _, _, rfl, fun j hj => ?_⟩
    obtain ⟨b, off, spot⟩ := a
    have hspot : spot = none := by simpa [Addr.add] using World.cell?_spot (hcell 0 (by omega))
    subst hspot
    have h1 := hcell j (by omega)
    rw [Addr.add_lit] at h1
    exact ⟨b, off, _, rfl, World.block_lt_of_cell? _ _ h1, h1⟩
end
end Go.Proofs.YtegbnadnodlalaaDoor
namespace Go.Proofs.YtegbnadnodlalaaDoor
open Go.ChangeShapes Go.WideShapes Go.ChangeAt Go.RowKit
section
variable {H : Type} {enc : TypeId × Value → H}
theorem args_stay {P : Program} (hl : laidOutB P = true) {W W' : World} (hb : Below W.heap.size W W') (sp : Nat → Bool) :
    ∀ {ts : List TypeId} {vs : List Value} {ds : List (DataW H)} {ps : List MemPlace}, (∀ t ∈ ts, P.readableRec t = true ∧ t < P.types.size) → DataW.TrodAll enc P W 0 (fun _ => true) true ts vs ds ps →
      (∀ x ∈ ps, x.block < W.heap.size) → (∀ x ∈ ps, sp x.block = true) → DataW.TrodAll enc P W' 0 sp true ts vs ds ps
  | [], _, _, _, _, h, _, _ => by
    obtain ⟨rfl, rfl, rfl⟩ := trodAll_nil h
    exact rfl
  | t :: ts, _, _, _, hr, h, hlt, hsp => by
    obtain ⟨v, vs1, d, ds1, a, b, rfl, rfl, rfl, h1, h2⟩ := trodAll_cons h
    exact ⟨a, b, WideElems.Trod_stays hl (hr t (by simp)).1 (hr t (by simp)).2 h1 (fun x hx => hb.same (hlt x (by simp [hx]))) (fun x hx => hsp x (by simp [hx])),
      args_stay hl hb sp (fun t ht => hr t (by simp [ht])) h2 (fun x hx => hlt x (by simp [hx])) (fun x hx => hsp x (by simp [hx])), rfl⟩
/-- The row's last step where the call leaves what was there as it was, whatever the arguments are. -/
theorem post_reads {P : Program} {f : Func} {s : ChangeSpec} {apart fresh handsOn again : Bool} {W W' : World} {args : Array Value} {v : Value} {ds gs : List (DataW H)} {before pv : List MemPlace}
    (hl : laidOutB P = true) (hr : ∀ t ∈ f.params.toList, P.readableRec t = true ∧ t < P.types.size)
    (hW : DataW.Whole enc P f.params.toList s.vars apart W args.toList ds gs before)
    (hA : DataW.TrodAll enc P W 0 (fun _ => true) true f.params.toList args.toList ds before)
    (hres : ∀ (b : Nat) (sp : Nat → Bool) (hd : Bool), DataW.TrodAll enc P W' b sp hd f.resultTypes.toList (v.resultList f.resultTypes.size) (s.fn H (ds ++ gs)).results [])
    (hargs : (s.fn H (ds ++ gs)).args = ds)
    (hvars : ∀ sp : Nat → Bool, DataW.TrodVars enc P W' sp s.vars (s.fn H (ds ++ gs)).vars pv) (hpv : pv = []) (hb : Below W.heap.size W W')
    (hok : ∀ (j : Nat) (t : TypeId) (r : Value), f.resultTypes[j]? = some t → (v.resultList f.resultTypes.size)[j]? = some r → Value.okWide P W' .any 0 t r) :
    s.post enc P f apart fresh handsOn again W args v W' := by
  have hlt : ∀ p ∈ before, p.block < W.heap.size := fun p hp => hW.lt p hp
  have hold : ∀ p ∈ before, (fun b => decide (b < W.heap.size)) p.block = true := fun p hp => by simpa using hlt p hp
  refine ⟨ds, gs, before, [], before, pv, hW, hres _ _ _, hargs.symm ▸ args_stay hl hb _ hr hA hlt hold, hvars _, World.keptBut_mono (fun p hp => ⟨hp, Or.inr (Or.inl hp)⟩) (hb.frame (· ∈ before)), fun _ => ?_⟩
  obtain ⟨_, _, _, _, _, hz, hn⟩ := hW
  refine ⟨hok, _, _, ([] ++ before) ++ pv, ⟨[] ++ before, pv, trodAll_append (hargs.symm ▸ args_stay hl hb _ hr hA hlt (fun _ _ => rfl)) (hres _ _ _), hvars _, rfl, ?_, ?_⟩, ?_⟩
  · intro b off hp
    have hin : MemPlace.cell b off ∈ before := by simpa [hpv] using hp
    rw [hb.frozen (hlt _ hin)]
    exact hz b off hin
  · intro ha
    simpa [hpv] using hn ha
  · intro p hp _
    simpa [hpv] using hp
end
end Go.Proofs.YtegbnadnodlalaaDoor
