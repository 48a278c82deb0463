/- Slices of bytes opened and shut; a row's last step (printed by genyd.py). Certificates, slices of numbers handed in, opened. Answers, parameters handed in, opened. Arguments that are only read: read again behind the call, unopened. -/
import Derived.Test.YtegbnadnodlalaaGreatDoorBg0Us
import Derived.ProofKit
import Derived.OpenShut
import Derived.DataShut
import Derived.ChangeSame
import Derived.JoinedOf
import Derived.JoinedAt
import Derived.RowKit3
import Derived.Carry
import Derived.ChangeSlices
import Derived.Test.YtegbnadnodlalaaGreatDoorE7b0Wa
import Derived.ChangeArms
import Derived.Deep.Slices
namespace Go.Proofs.YtegbnadnodlalaaGreatDoor
open Go.ChangeShapes Go.WideShapes Go.ChangeAt Go.RowKit
theorem lcells_u8 : Tryz.prog.cellsOf 5 = 1 := by kernel_rfl
theorem lwf_u8 {n : Int} (h : (Lit.int .u8 n).wf = true) : 0 ≤ n ∧ n ≤ 255 := by
 simp [Lit.wf, IntKind.min, IntKind.max, IntKind.signed, IntKind.bits] at h
 omega
section
variable {H : Type} {enc : TypeId × Value → H}
set_option maxRecDepth 100000 in
theorem open_bytes {W : World} {r : Reach} {base : Nat} {v : Value} {d : DataW H} {ps : List MemPlace} (hval : Value.okWide Tryz.prog W r base 29 v) (hd : DataW.Trod enc Tryz.prog W 0 (fun _ => true) true 29 v d ps) :
  ∃ p c l, v = .slice p (List.length l) c ∧ SB W v l ∧ (∀ x ∈ l, x < 256) ∧ ∀ W' : World, Below W.heap.size W W' → ∀ sp : Nat → Bool, (∀ x ∈ ps, sp x.block = true) → DataW.Trod enc Tryz.prog W' 0 sp true 29 v d ps := by
 obtain ⟨a1, len, cap, rfl⟩ := okWide_slice Tryz.underlying29 hval
 obtain ⟨fuel, hf⟩ := hd
 rcases open_ints Tryz.underlying29 Tryz.underlying5 lcells_u8 hf with ⟨hcs, hx⟩ | ⟨a, len', cap', zs, hcs, hba, hl, hm, hz, hx, hcell, hwz⟩
 ·
  simp [Value.cells] at hcs
  obtain ⟨rfl, rfl, rfl⟩ := hcs
  simp only [Prod.mk.injEq] at hx
  obtain ⟨rfl, rfl⟩ := hx
  exact ⟨none, 0, [], rfl, SB.nil _ _ _, (fun x hx => by cases hx), fun W' _ sp _ => shut_slice_nil Tryz.underlying29⟩
 ·
  simp [Value.cells] at hcs
  obtain ⟨rfl, rfl, rfl⟩ := hcs
  simp only [Prod.mk.injEq] at hx
  obtain ⟨rfl, rfl⟩ := hx
  simp only [if_true] at hz
  have hrange : ∀ i, i < zs.length → 0 ≤ zs.getD i 0 ∧ zs.getD i 0 ≤ 255 := fun i hi => by
   have : zs.getD i 0 = zs[i] := by simp [List.getD, hi]
   rw [this]
   exact lwf_u8 (hwz _ (List.getElem_mem hi))
  obtain ⟨l, hL⟩ : ∃ l : List Nat, l = (List.range len).map fun i => (zs.getD i 0).toNat := ⟨_, rfl⟩
  have ll : l.length = len := by rw [hL]; simp
  have bl : ∀ x ∈ l, x < 256 := fun x hx => by
   rw [hL] at hx
   obtain ⟨i, hi, rfl⟩ := List.mem_map.1 hx
   have := hrange i (by have := List.mem_range.1 hi; omega)
   omega
  refine ⟨some a, cap, l, by rw [ll], ⟨some a, cap, by rw [ll], by rw [ll]; exact hl, ?_⟩, bl, ?_⟩
  ·
   by_cases h0 : len = 0
   · exact Or.inl (List.eq_nil_of_length_eq_zero (by omega))
   ·
    right
    obtain ⟨b, off, spot⟩ := a
    have hspot : spot = none := by simpa [Addr.add] using World.cell?_spot (hcell 0 (by omega))
    subst hspot
    have hc : ∀ i, i < zs.length → W.cell? ⟨b, off + i, none⟩ = some (.int .u8 (zs.getD i 0)) := fun i hi => by
     have := hcell i hi
     rw [Addr.add_lit] at this
     exact this
    refine ⟨b, off, rfl, fun i hi => ?_, World.block_lt_of_cell? _ _ (hc 0 (by omega))⟩
    have hr := hrange i (by omega)
    rw [hc i (by omega)]
    congr 2
    have : l[i] = (zs.getD i 0).toNat := by simp only [hL, List.getElem_map, List.getElem_range]
    omega
  ·
   intro W' hb sp hsp
   refine ⟨2, shut_ints 0 Tryz.underlying29 Tryz.underlying5 lcells_u8 (Nat.zero_le _) hl hm ?_ ?_ hwz⟩
   ·
    by_cases h0 : cap = 0
    ·
     have : len = 0 := by omega
     rw [hz, h0, this]
     simp
    ·
     have : sp a.block = true := hsp (.cell a.block (a.off + 0)) (by
      simp only [MemPlace.row, List.mem_map, List.mem_range]
      exact ⟨0, by omega, rfl⟩)
     rw [this, hz]
     simp
   ·
    intro i hi
    rw [← hcell i hi]
    refine hb.cell ?_
    have := World.block_lt_of_cell? _ _ (hcell i hi)
    exact this
end
end Go.Proofs.YtegbnadnodlalaaGreatDoor
namespace Go.Proofs.YtegbnadnodlalaaGreatDoor
open Go.ChangeShapes Go.WideShapes Go.ChangeAt Go.RowKit
theorem cells_k32 : Tryz.prog.cellsOf 23 = 32 := by kernel_rfl
section
variable {H : Type} {enc : TypeId × Value → H} {W : World}
set_option maxRecDepth 100000 in
theorem arr_f {ty : TypeId} {n : Nat} (hu : Tryz.prog.underlying ty = some (.array n 5)) {fuel : Nat} {base : Nat} {sp : Nat → Bool} {held : Bool} {cs : List Value} {x : DataW H × List MemPlace} (hlen : cs.length = n) (hf : DataW.trod enc Tryz.prog W base sp held fuel ty cs = some x) :
  ∃ l, cs = vals l ∧ l.length = n ∧ Bytes l := by
 obtain ⟨xs, m, rfl, hx, hlen2, hn, hel⟩ := DataW.trod_array hu hf
 have hel2 : ∀ i, i < n → ∃ z, cs[i]? = some (.int .u8 z) ∧ (Lit.int .u8 z).wf = true := by
  intro i hi
  have h0 := hel i hi
  rw [lcells_u8, Nat.mul_one] at h0
  cases hxi : xs[i]? with
  | none => rw [List.getElem?_eq_none_iff] at hxi; omega
  | some y =>
   rw [hxi] at h0
   obtain ⟨z, hc, rfl, hw⟩ := DataW.trod_int Tryz.underlying5 h0
   refine ⟨z, ?_, hw⟩
   have h5 : ((cs.drop i).take 1).head? = some (.int .u8 z) := by rw [hc]; rfl
   rw [List.head?_take, if_neg (by decide), List.head?_drop] at h5
   exact h5
 obtain ⟨l, hl⟩ : ∃ l : List Nat, l = (List.range n).map fun i => match cs[i]? with | some (.int .u8 z) => z.toNat | _ => 0 := ⟨_, rfl⟩
 have hlen8 : l.length = n := by simp [hl]
 have hget : ∀ i (_ : i < n), cs[i]? = some (.int .u8 ((l.getD i 0 : Nat) : Int)) ∧ l.getD i 0 < 256 := by
  intro i h
  obtain ⟨z, h1, h3⟩ := hel2 i h
  have hn := lwf_u8 h3
  have : ((l.getD i 0 : Nat) : Int) = z := by
   rw [hl]
   simp [h, h1]
   omega
  rw [this]
  exact ⟨h1, by omega⟩
 refine ⟨l, ?_, hlen8, fun x hx => ?_⟩
 ·
  refine List.ext_getElem? fun i => ?_
  by_cases hi : i < n
  ·
   rw [(hget i hi).1]
   simp [vals, List.getD_eq_getElem?_getD, show i < l.length by omega]
  · rw [List.getElem?_eq_none (by omega), List.getElem?_eq_none (by simp [vals]; omega)]
 ·
  obtain ⟨i, hi, rfl⟩ := List.mem_iff_getElem.1 hx
  have := (hget i (by omega)).2
  rw [List.getD_eq_getElem?_getD, List.getElem?_eq_getElem hi] at this
  exact this
set_option maxRecDepth 100000 in
theorem open_nums {r : Reach} {base : Nat} {v : Value} {d : DataW H} {ps : List MemPlace} (hval : Value.okWide Tryz.prog W r base 30 v) (hd : DataW.Trod enc Tryz.prog W 0 (fun _ => true) true 30 v d ps) :
  ∃ p n c, v = .slice p n c ∧ IA W p n := by
 obtain ⟨a1, len, cap, rfl⟩ := okWide_slice Tryz.underlying30 hval
 obtain ⟨fuel, hf⟩ := hd
 rcases open_ints Tryz.underlying30 Tryz.underlying3 (by kernel_rfl) hf with ⟨hcs, hx⟩ | ⟨a, len', cap', zs, hcs, hba, hl, hm, hz, hx, hcell, hwz⟩
 ·
  simp [Value.cells] at hcs
  obtain ⟨rfl, rfl, rfl⟩ := hcs
  exact ⟨none, 0, 0, rfl, fun j hj => absurd hj (Nat.not_lt_zero _)⟩
 ·
  simp [Value.cells] at hcs
  obtain ⟨rfl, rfl, rfl⟩ := hcs
  simp only [if_true] at hz
  refine ⟨_, _, _, rfl, fun j hj => ?_⟩
  obtain ⟨b, off, spot⟩ := a
  have hspot : spot = none := by simpa [Addr.add] using World.cell?_spot (hcell 0 (by omega))
  subst hspot
  have h1 := hcell j (by omega)
  rw [Addr.add_lit] at h1
  exact ⟨b, off, _, rfl, World.block_lt_of_cell? _ _ h1, h1⟩
end
end Go.Proofs.YtegbnadnodlalaaGreatDoor
namespace Go.Proofs.YtegbnadnodlalaaGreatDoor
open Go.ChangeShapes Go.WideShapes Go.ChangeAt Go.RowKit
theorem cells_boo : Tryz.prog.cellsOf 4 = 1 := by kernel_rfl
theorem cells_u64 : Tryz.prog.cellsOf 26 = 1 := by kernel_rfl
theorem cells_ans : Tryz.prog.cellsOf 25 = 65 := by kernel_rfl
theorem cells_par : Tryz.prog.cellsOf 28 = 4 := by kernel_rfl
theorem lwf_u64 {n : Int} (h : (Lit.int .u64 n).wf = true) : 0 ≤ n ∧ n < 18446744073709551616 := by
 simp [Lit.wf, IntKind.min, IntKind.max, IntKind.signed, IntKind.bits] at h
 omega
section
variable {H : Type} {enc : TypeId × Value → H} {W : World}
set_option maxRecDepth 100000 in
theorem ans_f {fuel : Nat} {cs : List Value} {x : DataW H × List MemPlace} (hf : DataW.trod enc Tryz.prog W 0 (fun _ => true) true fuel 25 cs = some x) :
  ∃ (r s : List Nat) (q : Bool), cs = ansL r s q ∧ r.length = 32 ∧ Bytes r ∧ s.length = 32 ∧ Bytes s := by
 obtain ⟨xs, n, _, _, hlen, hn, hel⟩ := DataW.trod_struct Tryz.underlying25 hf
 rw [cells_ans] at hlen
 match xs, hn with
 | [y0, y1, y2], _ =>
  have t0 : DataW.trod enc Tryz.prog W 0 (fun _ => true) true n 23 ((cs.drop 0).take (Tryz.prog.cellsOf 23)) = some y0 := hel 0 _ rfl
  have t1 : DataW.trod enc Tryz.prog W 0 (fun _ => true) true n 23 ((cs.drop 32).take (Tryz.prog.cellsOf 23)) = some y1 := hel 1 _ rfl
  have t2 : DataW.trod enc Tryz.prog W 0 (fun _ => true) true n 4 ((cs.drop 64).take (Tryz.prog.cellsOf 4)) = some y2 := hel 2 _ rfl
  rw [cells_k32] at t0 t1
  rw [cells_boo] at t2
  obtain ⟨r, e0, lr, br⟩ := arr_f Tryz.underlying23 (by rw [List.length_take, List.length_drop]; omega) t0
  obtain ⟨s, e1, ls, bs⟩ := arr_f Tryz.underlying23 (by rw [List.length_take, List.length_drop]; omega) t1
  obtain ⟨q, e2, _⟩ := DataW.trod_bool Tryz.underlying4 t2
  refine ⟨r, s, q, ?_, lr, br, ls, bs⟩
  unfold ansL
  rw [List.append_nil, ← e0, ← e1, ← e2, List.drop_zero, List.take_of_length_le (show (cs.drop 64).length ≤ 1 by rw [List.length_drop]; omega)]
  have d : (cs.drop 64) = (cs.drop 32).drop 32 := by rw [List.drop_drop]
  rw [d, List.take_append_drop, List.take_append_drop]
set_option maxRecDepth 100000 in
theorem par_f {fuel : Nat} {cs : List Value} {x : DataW H × List MemPlace} (hf : DataW.trod enc Tryz.prog W 0 (fun _ => true) true fuel 28 cs = some x) :
  ∃ a b c d : Nat, cs = (parV a b c d).toList ∧ a < 18446744073709551616 ∧ b < 18446744073709551616 ∧ c < 18446744073709551616 ∧ d < 18446744073709551616 := by
 obtain ⟨xs, n, _, _, hlen, hn, hel⟩ := DataW.trod_struct Tryz.underlying28 hf
 rw [cells_par] at hlen
 match cs, hlen with
 | [c0, c1, c2, c3], _ =>
  match xs, hn with
  | [y0, y1, y2, y3], _ =>
   have t0 : DataW.trod enc Tryz.prog W 0 (fun _ => true) true n 26 (([c0, c1, c2, c3].drop 0).take (Tryz.prog.cellsOf 26)) = some y0 := hel 0 _ rfl
   have t1 : DataW.trod enc Tryz.prog W 0 (fun _ => true) true n 26 (([c0, c1, c2, c3].drop 1).take (Tryz.prog.cellsOf 26)) = some y1 := hel 1 _ rfl
   have t2 : DataW.trod enc Tryz.prog W 0 (fun _ => true) true n 26 (([c0, c1, c2, c3].drop 2).take (Tryz.prog.cellsOf 26)) = some y2 := hel 2 _ rfl
   have t3 : DataW.trod enc Tryz.prog W 0 (fun _ => true) true n 26 (([c0, c1, c2, c3].drop 3).take (Tryz.prog.cellsOf 26)) = some y3 := hel 3 _ rfl
   rw [cells_u64] at t0 t1 t2 t3
   obtain ⟨a, e0, _, wa⟩ := DataW.trod_int Tryz.underlying26 t0
   obtain ⟨b, e1, _, wb⟩ := DataW.trod_int Tryz.underlying26 t1
   obtain ⟨c, e2, _, wc⟩ := DataW.trod_int Tryz.underlying26 t2
   obtain ⟨d, e3, _, wd⟩ := DataW.trod_int Tryz.underlying26 t3
   simp at e0 e1 e2 e3
   subst e0 e1 e2 e3
   have ha := lwf_u64 wa
   have hb := lwf_u64 wb
   have hc := lwf_u64 wc
   have hd := lwf_u64 wd
   refine ⟨a.toNat, b.toNat, c.toNat, d.toNat, ?_, by omega, by omega, by omega, by omega⟩
   simp [parV, Int.toNat_of_nonneg ha.1, Int.toNat_of_nonneg hb.1, Int.toNat_of_nonneg hc.1, Int.toNat_of_nonneg hd.1]
set_option maxRecDepth 100000 in
theorem open_answer {r : Reach} {base : Nat} {v : Value} {d : DataW H} {ps : List MemPlace} (hval : Value.okWide Tryz.prog W r base 25 v) (hd : DataW.Trod enc Tryz.prog W 0 (fun _ => true) true 25 v d ps) :
  ∃ (k s : List Nat) (q : Bool), v = .agg (ansV k s q) ∧ k.length = 32 ∧ Bytes k ∧ s.length = 32 ∧ Bytes s := by
 obtain ⟨cs, rfl, _⟩ := okWide_struct Tryz.underlying25 hval
 obtain ⟨fuel, hf⟩ := hd
 obtain ⟨k, s, q, e, h⟩ := ans_f hf
 refine ⟨k, s, q, ?_, h⟩
 congr 1
 apply Array.toList_inj.1
 unfold ansV
 rw [← e]
 simp [Value.cells]
set_option maxRecDepth 100000 in
theorem open_params {r : Reach} {base : Nat} {v : Value} {d : DataW H} {ps : List MemPlace} (hval : Value.okWide Tryz.prog W r base 28 v) (hd : DataW.Trod enc Tryz.prog W 0 (fun _ => true) true 28 v d ps) :
  ∃ a b c e : Nat, v = .agg (parV a b c e) ∧ a < 18446744073709551616 ∧ b < 18446744073709551616 ∧ c < 18446744073709551616 ∧ e < 18446744073709551616 := by
 obtain ⟨cs, rfl, _⟩ := okWide_struct Tryz.underlying28 hval
 obtain ⟨fuel, hf⟩ := hd
 obtain ⟨a, b, c, e, h0, h⟩ := par_f hf
 refine ⟨a, b, c, e, ?_, h⟩
 congr 1
 apply Array.toList_inj.1
 rw [← h0]
 simp [Value.cells]
theorem trodAll_five {P : Program} {w : World} {base : Nat} {spare : Nat → Bool} {held : Bool} {t0 t1 t2 t3 t4 : TypeId} {args : Array Value} {ds : List (DataW H)} {ps : List MemPlace} (h : DataW.TrodAll enc P w base spare held [t0, t1, t2, t3, t4] args.toList ds ps) :
  ∃ v0 v1 v2 v3 v4 d0 d1 d2 d3 d4 p0 p1 p2 p3 p4, args = #[v0, v1, v2, v3, v4] ∧ ds = [d0, d1, d2, d3, d4] ∧ ps = p0 ++ (p1 ++ (p2 ++ (p3 ++ p4))) ∧ DataW.Trod enc P w base spare held t0 v0 d0 p0 ∧ DataW.Trod enc P w base spare held t1 v1 d1 p1 ∧ DataW.Trod enc P w base spare held t2 v2 d2 p2 ∧ DataW.Trod enc P w base spare held t3 v3 d3 p3 ∧ DataW.Trod enc P w base spare held t4 v4 d4 p4 := by
 obtain ⟨v0, r0, d0, e0, p0, q0, hargs, rfl, rfl, h0, h⟩ := trodAll_cons h
 obtain ⟨v1, r1, d1, e1, p1, q1, rfl, rfl, rfl, h1, h⟩ := trodAll_cons h
 obtain ⟨v2, r2, d2, e2, p2, q2, rfl, rfl, rfl, h2, h⟩ := trodAll_cons h
 obtain ⟨v3, r3, d3, e3, p3, q3, rfl, rfl, rfl, h3, h⟩ := trodAll_cons h
 obtain ⟨v4, r4, d4, e4, p4, q4, rfl, rfl, rfl, h4, h⟩ := trodAll_cons h
 obtain ⟨rfl, rfl, rfl⟩ := trodAll_nil h
 exact ⟨v0, v1, v2, v3, v4, d0, d1, d2, d3, d4, p0, p1, p2, p3, p4, by cases args; simp_all, rfl, by simp, h0, h1, h2, h3, h4⟩
end
end Go.Proofs.YtegbnadnodlalaaGreatDoor
namespace Go.Proofs.YtegbnadnodlalaaGreatDoor
open Go.ChangeShapes Go.WideShapes Go.ChangeAt Go.RowKit
section
variable {H : Type} {enc : TypeId × Value → H}
theorem args_stay {P : Program} (hl : laidOutB P = true) {W W' : World} (hb : Below W.heap.size W W') (sp : Nat → Bool) :
  ∀ {ts : List TypeId} {vs : List Value} {ds : List (DataW H)} {ps : List MemPlace}, (∀ t ∈ ts, P.readableRec t = true ∧ t < P.types.size) → DataW.TrodAll enc P W 0 (fun _ => true) true ts vs ds ps →
   (∀ x ∈ ps, x.block < W.heap.size) → (∀ x ∈ ps, sp x.block = true) → DataW.TrodAll enc P W' 0 sp true ts vs ds ps
 | [], _, _, _, _, h, _, _ => by
  obtain ⟨rfl, rfl, rfl⟩ := trodAll_nil h
  exact rfl
 | t :: ts, _, _, _, hr, h, hlt, hsp => by
  obtain ⟨v, vs1, d, ds1, a, b, rfl, rfl, rfl, h1, h2⟩ := trodAll_cons h
  exact ⟨a, b, WideElems.Trod_stays hl (hr t (by simp)).1 (hr t (by simp)).2 h1 (fun x hx => hb.same (hlt x (by simp [hx]))) (fun x hx => hsp x (by simp [hx])),
   args_stay hl hb sp (fun t ht => hr t (by simp [ht])) h2 (fun x hx => hlt x (by simp [hx])) (fun x hx => hsp x (by simp [hx])), rfl⟩
/-- The row's last step where the call leaves what was there as it was, whatever the arguments are. -/
theorem post_reads {P : Program} {f : Func} {s : ChangeSpec} {apart fresh handsOn again : Bool} {W W' : World} {args : Array Value} {v : Value} {ds gs : List (DataW H)} {before pv : List MemPlace}
  (hl : laidOutB P = true) (hr : ∀ t ∈ f.params.toList, P.readableRec t = true ∧ t < P.types.size)
  (hW : DataW.Whole enc P f.params.toList s.vars apart W args.toList ds gs before)
  (hA : DataW.TrodAll enc P W 0 (fun _ => true) true f.params.toList args.toList ds before)
  (hres : ∀ (b : Nat) (sp : Nat → Bool) (hd : Bool), DataW.TrodAll enc P W' b sp hd f.resultTypes.toList (v.resultList f.resultTypes.size) (s.fn H (ds ++ gs)).results [])
  (hargs : (s.fn H (ds ++ gs)).args = ds)
  (hvars : ∀ sp : Nat → Bool, DataW.TrodVars enc P W' sp s.vars (s.fn H (ds ++ gs)).vars pv) (hpv : pv = []) (hb : Below W.heap.size W W')
  (hok : ∀ (j : Nat) (t : TypeId) (r : Value), f.resultTypes[j]? = some t → (v.resultList f.resultTypes.size)[j]? = some r → Value.okWide P W' .any 0 t r) :
  s.post enc P f apart fresh handsOn again W args v W' := by
 have hlt : ∀ p ∈ before, p.block < W.heap.size := fun p hp => hW.lt p hp
 have hold : ∀ p ∈ before, (fun b => decide (b < W.heap.size)) p.block = true := fun p hp => by simpa using hlt p hp
 refine ⟨ds, gs, before, [], before, pv, hW, hres _ _ _, hargs.symm ▸ args_stay hl hb _ hr hA hlt hold, hvars _, World.keptBut_mono (fun p hp => ⟨hp, Or.inr (Or.inl hp)⟩) (hb.frame (· ∈ before)), fun _ => ?_⟩
 obtain ⟨_, _, _, _, _, hz, hn⟩ := hW
 refine ⟨hok, _, _, ([] ++ before) ++ pv, ⟨[] ++ before, pv, trodAll_append (hargs.symm ▸ args_stay hl hb _ hr hA hlt (fun _ _ => rfl)) (hres _ _ _), hvars _, rfl, ?_, ?_⟩, ?_⟩
 ·
  intro b off hp
  have hin : MemPlace.cell b off ∈ before := by simpa [hpv] using hp
  rw [hb.frozen (hlt _ hin)]
  exact hz b off hin
 ·
  intro ha
  simpa [hpv] using hn ha
 ·
  intro p hp _
  simpa [hpv] using hp
end
end Go.Proofs.YtegbnadnodlalaaGreatDoor
