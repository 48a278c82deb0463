/- How sixteen bytes read as data, opened and shut; the row's last step from 'Below'. -/
import Derived.Test.YteaddadmdjjfaaaBo
import Derived.Test.YteaddadmdjjfaaaVa
import Derived.ProofKit
import Derived.OpenShut
import Derived.DataShut
import Derived.ChangeSame
import Derived.JoinedOf
import Derived.JoinedAt
import Derived.RowKit3
import Derived.Carry
import Derived.ChangeSlices
namespace Go.Proofs.Yteaddadmdjjfaaa
open Go.ChangeShapes Go.WideShapes Go.ChangeAt Go.RowKit

theorem cells_b12 : Try.prog.cellsOf 23 = 12 := by kernel_rfl
theorem cells_b16 : Try.prog.cellsOf 22 = 16 := by kernel_rfl
theorem cells_u8 : Try.prog.cellsOf 5 = 1 := by kernel_rfl
theorem wf_u8 {n : Int} (h : (Lit.int .u8 n).wf = true) : 0 ≤ n ∧ n ≤ 255 := by
  simp [Lit.wf, IntKind.min, IntKind.max, IntKind.signed, IntKind.bits] at h
  omega

section
variable {H : Type} {enc : TypeId × Value → H}
/-- Sixteen bytes' data. -/
def b16Data (l : List Nat) : DataW H := .agg ((NI l).map fun n => .lit (.int .u8 n))
theorem shut_b16 {w : World} {base : Nat} {sp : Nat → Bool} {held : Bool} (l : List Nat) (hl : l.length = 16) (hb : ∀ x ∈ l, x < 256) :
    DataW.Trod enc Try.prog w base sp held 22 (.agg (Iv .u8 (NI l))) (b16Data l) [] := by
  have hN : (NI l).length = 16 := (NI_length l).trans hl
  have hwf : ∀ n ∈ NI l, (Lit.int .u8 n).wf = true := by
    intro n hn
    obtain ⟨x, hx, rfl⟩ := List.mem_map.1 hn
    have := hb x hx
    simp [Lit.wf, IntKind.min, IntKind.max, IntKind.signed, IntKind.bits]
    omega
  unfold b16Data
  generalize NI l = L at hN hwf
  refine ⟨2, ?_⟩
  have e : (List.range 16).mapM (fun i => DataW.trod enc Try.prog w base sp held 1 5 (((L.map (Value.int .u8)).drop i).take 1)) = some (L.map fun n => ((.lit (.int .u8 n) : DataW H), ([] : List MemPlace))) := by
    apply mapM_some_of_get
    · simp [hN]
    · intro i x hx
      have hi : i < 16 := by
        have := List.getElem?_eq_some_iff.1 hx
        obtain ⟨h, _⟩ := this
        simpa using h
      have hxi : x = i := by
        rw [List.getElem?_eq_getElem (by simpa using hi)] at hx
        simpa using hx.symm
      subst hxi
      have hix : x < L.length := by omega
      have hd : ((L.map (Value.int .u8)).drop x).take 1 = [.int .u8 L[x]] := by
        rw [List.drop_eq_getElem_cons (by simpa using hix)]
        simp
      rw [hd]
      have hw := hwf L[x] (List.getElem_mem hix)
      simp [DataW.trod, Try.underlying5, hw, hix]
  unfold DataW.trod
  simp [Iv, Value.cells, Try.underlying22, cells_b16, cells_u8, hN]
  refine ⟨_, e, ?_, ?_⟩
  · simp
  · intro a b h
    simp only [List.mem_map, Prod.mk.injEq] at h
    obtain ⟨_, _, _, h⟩ := h
    exact h.symm

theorem open_b16 {w : World} {r : Reach} {b0 base : Nat} {sp : Nat → Bool} {held : Bool} {v : Value} {d : DataW H} {ps : List MemPlace}
    (hval : Value.okWide Try.prog w r b0 22 v) (hd : DataW.Trod enc Try.prog w base sp held 22 v d ps) :
    ∃ l, v = .agg (Iv .u8 (NI l)) ∧ d = b16Data l ∧ ps = [] ∧ l.length = 16 ∧ ∀ x ∈ l, x < 256 := by
  obtain ⟨cs, rfl, hsz, _⟩ : ∃ cs, v = .agg cs ∧ cs.size = Try.prog.cellsOf 22 ∧ Row.okWide Try.prog w r b0 22 cs := by
    simpa [Value.okWide, Try.underlying22] using hval
  rw [cells_b16] at hsz
  obtain ⟨fuel, hf⟩ := hd
  obtain ⟨xs, m, rfl, hx, hlen, hn, hel⟩ := DataW.trod_array Try.underlying22 hf
  have hel2 : ∀ i, i < 16 → ∃ n, cs[i]? = some (.int .u8 n) ∧ xs[i]? = some (.lit (.int .u8 n), []) ∧ (Lit.int .u8 n).wf = true := by
    intro i hi
    have h0 := hel i hi
    rw [cells_u8, Nat.mul_one] at h0
    cases hxi : xs[i]? with
    | none => rw [List.getElem?_eq_none_iff] at hxi; omega
    | some y =>
      rw [hxi] at h0
      obtain ⟨n, hc, rfl, hw⟩ := DataW.trod_int Try.underlying5 h0
      refine ⟨n, ?_, rfl, hw⟩
      have hi2 : i < cs.toList.length := by simp; omega
      have : ((cs.toList.drop i).take 1) = [.int .u8 n] := hc
      rw [List.drop_eq_getElem_cons hi2] at this
      simp at this
      rw [Array.getElem?_eq_getElem (by omega), this]
  obtain ⟨l, hl⟩ : ∃ l : List Nat, l = (List.range 16).map fun i => match cs[i]? with | some (.int .u8 n) => n.toNat | _ => 0 := ⟨_, rfl⟩
  have hlen16 : l.length = 16 := by simp [hl]
  have hget : ∀ i (h : i < 16), cs[i]? = some (.int .u8 ((l.getD i 0 : Nat) : Int)) ∧ xs[i]? = some (.lit (.int .u8 ((l.getD i 0 : Nat) : Int)), []) ∧ l.getD i 0 < 256 := by
    intro i h
    obtain ⟨n, h1, h2, h3⟩ := hel2 i h
    have hn := wf_u8 h3
    have : ((l.getD i 0 : Nat) : Int) = n := by
      rw [hl]
      simp [h, h1]
      omega
    rw [this]
    exact ⟨h1, h2, by omega⟩
  have hcs : cs = Iv .u8 (NI l) := by
    apply Array.ext_getElem?
    intro i
    by_cases h : i < 16
    · rw [(hget i h).1, NI_get _ _ (by omega)]
      simp [hlen16, h]
    · rw [Array.getElem?_eq_none (by omega), Array.getElem?_eq_none (by rw [Iv_size, NI_length]; omega)]
  have hxs : xs = (NI l).map fun n => ((.lit (.int .u8 n) : DataW H), ([] : List MemPlace)) := by
    apply List.ext_getElem?
    intro i
    by_cases h : i < 16
    · rw [(hget i h).2.1]
      simp [NI, hlen16, h]
    · rw [List.getElem?_eq_none (by omega), List.getElem?_eq_none (by simp [NI_length]; omega)]
  have hb : ∀ x ∈ l, x < 256 := by
    intro x hx2
    obtain ⟨i, hi, rfl⟩ := List.getElem_of_mem hx2
    have := (hget i (by omega)).2.2
    simpa [hi] using this
  subst hxs
  simp only [Prod.mk.injEq] at hx
  refine ⟨l, by rw [hcs], ?_, ?_, hlen16, hb⟩
  · rw [hx.1, b16Data, List.map_map]
    rfl
  · rw [hx.2]
    simp
/-- Twelve bytes' data. -/
def b12Data (l : List Nat) : DataW H := .agg ((NI l).map fun n => .lit (.int .u8 n))
theorem shut_b12 {w : World} {base : Nat} {sp : Nat → Bool} {held : Bool} (l : List Nat) (hl : l.length = 12) (hb : ∀ x ∈ l, x < 256) :
    DataW.Trod enc Try.prog w base sp held 23 (.agg (Iv .u8 (NI l))) (b12Data l) [] := by
  have hN : (NI l).length = 12 := (NI_length l).trans hl
  have hwf : ∀ n ∈ NI l, (Lit.int .u8 n).wf = true := by
    intro n hn
    obtain ⟨x, hx, rfl⟩ := List.mem_map.1 hn
    have := hb x hx
    simp [Lit.wf, IntKind.min, IntKind.max, IntKind.signed, IntKind.bits]
    omega
  unfold b12Data
  generalize NI l = L at hN hwf
  refine ⟨2, ?_⟩
  have e : (List.range 12).mapM (fun i => DataW.trod enc Try.prog w base sp held 1 5 (((L.map (Value.int .u8)).drop i).take 1)) = some (L.map fun n => ((.lit (.int .u8 n) : DataW H), ([] : List MemPlace))) := by
    apply mapM_some_of_get
    · simp [hN]
    · intro i x hx
      have hi : i < 12 := by
        have := List.getElem?_eq_some_iff.1 hx
        obtain ⟨h, _⟩ := this
        simpa using h
      have hxi : x = i := by
        rw [List.getElem?_eq_getElem (by simpa using hi)] at hx
        simpa using hx.symm
      subst hxi
      have hix : x < L.length := by omega
      have hd : ((L.map (Value.int .u8)).drop x).take 1 = [.int .u8 L[x]] := by
        rw [List.drop_eq_getElem_cons (by simpa using hix)]
        simp
      rw [hd]
      have hw := hwf L[x] (List.getElem_mem hix)
      simp [DataW.trod, Try.underlying5, hw, hix]
  unfold DataW.trod
  simp [Iv, Value.cells, Try.underlying23, cells_b12, cells_u8, hN]
  refine ⟨_, e, ?_, ?_⟩
  · simp
  · intro a b h
    simp only [List.mem_map, Prod.mk.injEq] at h
    obtain ⟨_, _, _, h⟩ := h
    exact h.symm

theorem open_b12 {w : World} {r : Reach} {b0 base : Nat} {sp : Nat → Bool} {held : Bool} {v : Value} {d : DataW H} {ps : List MemPlace}
    (hval : Value.okWide Try.prog w r b0 23 v) (hd : DataW.Trod enc Try.prog w base sp held 23 v d ps) :
    ∃ l, v = .agg (Iv .u8 (NI l)) ∧ d = b12Data l ∧ ps = [] ∧ l.length = 12 ∧ ∀ x ∈ l, x < 256 := by
  obtain ⟨cs, rfl, hsz, _⟩ : ∃ cs, v = .agg cs ∧ cs.size = Try.prog.cellsOf 23 ∧ Row.okWide Try.prog w r b0 23 cs := by
    simpa [Value.okWide, Try.underlying23] using hval
  rw [cells_b12] at hsz
  obtain ⟨fuel, hf⟩ := hd
  obtain ⟨xs, m, rfl, hx, hlen, hn, hel⟩ := DataW.trod_array Try.underlying23 hf
  have hel2 : ∀ i, i < 12 → ∃ n, cs[i]? = some (.int .u8 n) ∧ xs[i]? = some (.lit (.int .u8 n), []) ∧ (Lit.int .u8 n).wf = true := by
    intro i hi
    have h0 := hel i hi
    rw [cells_u8, Nat.mul_one] at h0
    cases hxi : xs[i]? with
    | none => rw [List.getElem?_eq_none_iff] at hxi; omega
    | some y =>
      rw [hxi] at h0
      obtain ⟨n, hc, rfl, hw⟩ := DataW.trod_int Try.underlying5 h0
      refine ⟨n, ?_, rfl, hw⟩
      have hi2 : i < cs.toList.length := by simp; omega
      have : ((cs.toList.drop i).take 1) = [.int .u8 n] := hc
      rw [List.drop_eq_getElem_cons hi2] at this
      simp at this
      rw [Array.getElem?_eq_getElem (by omega), this]
  obtain ⟨l, hl⟩ : ∃ l : List Nat, l = (List.range 12).map fun i => match cs[i]? with | some (.int .u8 n) => n.toNat | _ => 0 := ⟨_, rfl⟩
  have hlen12 : l.length = 12 := by simp [hl]
  have hget : ∀ i (h : i < 12), cs[i]? = some (.int .u8 ((l.getD i 0 : Nat) : Int)) ∧ xs[i]? = some (.lit (.int .u8 ((l.getD i 0 : Nat) : Int)), []) ∧ l.getD i 0 < 256 := by
    intro i h
    obtain ⟨n, h1, h2, h3⟩ := hel2 i h
    have hn := wf_u8 h3
    have : ((l.getD i 0 : Nat) : Int) = n := by
      rw [hl]
      simp [h, h1]
      omega
    rw [this]
    exact ⟨h1, h2, by omega⟩
  have hcs : cs = Iv .u8 (NI l) := by
    apply Array.ext_getElem?
    intro i
    by_cases h : i < 12
    · rw [(hget i h).1, NI_get _ _ (by omega)]
      simp [hlen12, h]
    · rw [Array.getElem?_eq_none (by omega), Array.getElem?_eq_none (by rw [Iv_size, NI_length]; omega)]
  have hxs : xs = (NI l).map fun n => ((.lit (.int .u8 n) : DataW H), ([] : List MemPlace)) := by
    apply List.ext_getElem?
    intro i
    by_cases h : i < 12
    · rw [(hget i h).2.1]
      simp [NI, hlen12, h]
    · rw [List.getElem?_eq_none (by omega), List.getElem?_eq_none (by simp [NI_length]; omega)]
  have hb : ∀ x ∈ l, x < 256 := by
    intro x hx2
    obtain ⟨i, hi, rfl⟩ := List.getElem_of_mem hx2
    have := (hget i (by omega)).2.2
    simpa [hi] using this
  subst hxs
  simp only [Prod.mk.injEq] at hx
  refine ⟨l, by rw [hcs], ?_, ?_, hlen12, hb⟩
  · rw [hx.1, b12Data, List.map_map]
    rfl
  · rw [hx.2]
    simp
/-- The row's last step where the call leaves what was there as it was. -/
theorem post_below {P : Program} {f : Func} {s : ChangeSpec} {apart fresh handsOn again : Bool} {W W' : World} {args : Array Value} {v : Value} {ds gs : List (DataW H)} {before pa pv : List MemPlace}
    (hW : DataW.Whole enc P f.params.toList s.vars apart W args.toList ds gs before)
    (hres : ∀ (b : Nat) (sp : Nat → Bool) (hd : Bool), DataW.TrodAll enc P W' b sp hd f.resultTypes.toList (v.resultList f.resultTypes.size) (s.fn H (ds ++ gs)).results [])
    (hargs : ∀ sp : Nat → Bool, DataW.TrodAll enc P W' 0 sp true f.params.toList args.toList (s.fn H (ds ++ gs)).args pa)
    (hvars : ∀ sp : Nat → Bool, DataW.TrodVars enc P W' sp s.vars (s.fn H (ds ++ gs)).vars pv)
    (hps : before = pa ++ pv) (hb : Below W.heap.size W W')
    (hok : ∀ (j : Nat) (t : TypeId) (r : Value), f.resultTypes[j]? = some t → (v.resultList f.resultTypes.size)[j]? = some r → Value.okWide P W' .any 0 t r) :
    s.post enc P f apart fresh handsOn again W args v W' := by
  have hlt : ∀ p ∈ before, p.block < W.heap.size := fun p hp => hW.lt p hp
  refine ⟨ds, gs, before, [], pa, pv, hW, hres _ _ _, hargs _, hvars _, World.keptBut_mono (fun p hp => ⟨hp, ?_⟩) (hb.frame (· ∈ before)), fun _ => ?_⟩
  · rw [hps, List.mem_append] at hp
    exact Or.inr hp
  · obtain ⟨_, _, _, _, _, hz, hn⟩ := hW
    refine ⟨hok, _, _, ([] ++ pa) ++ pv, ⟨[] ++ pa, pv, trodAll_append (hargs _) (hres _ _ _), hvars _, rfl, ?_, ?_⟩, ?_⟩
    · intro b off hp
      have hin : MemPlace.cell b off ∈ before := by rw [hps]; simpa using hp
      rw [hb.frozen (hlt _ hin)]
      exact hz b off hin
    · intro ha
      have := hn ha
      rw [hps] at this
      simpa using this
    · intro p hp _
      rw [hps]
      simpa using hp
/-- Five parameters. -/
theorem trodAll_five {P : Program} {w : World} {base : Nat} {spare : Nat → Bool} {held : Bool} {t0 t1 t2 t3 t4 : TypeId} {args : Array Value} {ds : List (DataW H)} {ps : List MemPlace} (h : DataW.TrodAll enc P w base spare held [t0, t1, t2, t3, t4] args.toList ds ps) :
    ∃ v0 v1 v2 v3 v4 d0 d1 d2 d3 d4 p0 p1 p2 p3 p4, args = #[v0, v1, v2, v3, v4] ∧ ds = [d0, d1, d2, d3, d4] ∧ ps = p0 ++ (p1 ++ (p2 ++ (p3 ++ p4))) ∧ DataW.Trod enc P w base spare held t0 v0 d0 p0 ∧ DataW.Trod enc P w base spare held t1 v1 d1 p1 ∧ DataW.Trod enc P w base spare held t2 v2 d2 p2 ∧ DataW.Trod enc P w base spare held t3 v3 d3 p3 ∧ DataW.Trod enc P w base spare held t4 v4 d4 p4 := by
  obtain ⟨v0, r0, d0, e0, p0, q0, hargs, rfl, rfl, h0, h⟩ := trodAll_cons h
  obtain ⟨v1, r1, d1, e1, p1, q1, rfl, rfl, rfl, h1, h⟩ := trodAll_cons h
  obtain ⟨v2, r2, d2, e2, p2, q2, rfl, rfl, rfl, h2, h⟩ := trodAll_cons h
  obtain ⟨v3, r3, d3, e3, p3, q3, rfl, rfl, rfl, h3, h⟩ := trodAll_cons h
  obtain ⟨v4, r4, d4, e4, p4, q4, rfl, rfl, rfl, h4, h⟩ := trodAll_cons h
  obtain ⟨rfl, rfl, rfl⟩ := trodAll_nil h
  exact ⟨v0, v1, v2, v3, v4, d0, d1, d2, d3, d4, p0, p1, p2, p3, p4, by cases args; simp_all, rfl, by simp, h0, h1, h2, h3, h4⟩
theorem trodAll_mk5 {P : Program} {w : World} {base : Nat} {spare : Nat → Bool} {held : Bool} {t0 t1 t2 t3 t4 : TypeId} {v0 v1 v2 v3 v4 : Value} {d0 d1 d2 d3 d4 : DataW H} {p0 p1 p2 p3 p4 : List MemPlace} (h0 : DataW.Trod enc P w base spare held t0 v0 d0 p0) (h1 : DataW.Trod enc P w base spare held t1 v1 d1 p1)
    (h2 : DataW.Trod enc P w base spare held t2 v2 d2 p2) (h3 : DataW.Trod enc P w base spare held t3 v3 d3 p3) (h4 : DataW.Trod enc P w base spare held t4 v4 d4 p4) : DataW.TrodAll enc P w base spare held [t0, t1, t2, t3, t4] [v0, v1, v2, v3, v4] [d0, d1, d2, d3, d4] (p0 ++ (p1 ++ (p2 ++ (p3 ++ p4)))) :=
  ⟨p0, p1 ++ (p2 ++ (p3 ++ p4)), h0, trodAll_mk4 h1 h2 h3 h4, rfl⟩
/-- The row's last step where the call leaves what was there as it was, and an argument may have spare room. -/
theorem post_below2 {P : Program} {f : Func} {s : ChangeSpec} {apart fresh handsOn again : Bool} {W W' : World} {args : Array Value} {v : Value} {ds gs : List (DataW H)} {before pa pv : List MemPlace}
    (hW : DataW.Whole enc P f.params.toList s.vars apart W args.toList ds gs before)
    (hres : ∀ (b : Nat) (sp : Nat → Bool) (hd : Bool), DataW.TrodAll enc P W' b sp hd f.resultTypes.toList (v.resultList f.resultTypes.size) (s.fn H (ds ++ gs)).results [])
    (hargs : ∀ sp : Nat → Bool, (∀ p ∈ before, sp p.block = true) → DataW.TrodAll enc P W' 0 sp true f.params.toList args.toList (s.fn H (ds ++ gs)).args pa)
    (hvars : ∀ sp : Nat → Bool, (∀ p ∈ before, sp p.block = true) → DataW.TrodVars enc P W' sp s.vars (s.fn H (ds ++ gs)).vars pv)
    (hps : before = pa ++ pv) (hb : Below W.heap.size W W')
    (hok : ∀ (j : Nat) (t : TypeId) (r : Value), f.resultTypes[j]? = some t → (v.resultList f.resultTypes.size)[j]? = some r → Value.okWide P W' .any 0 t r) :
    s.post enc P f apart fresh handsOn again W args v W' := by
  have hlt : ∀ p ∈ before, p.block < W.heap.size := fun p hp => hW.lt p hp
  have hold : ∀ p ∈ before, (fun b => decide (b < W.heap.size)) p.block = true := fun p hp => by simpa using hlt p hp
  refine ⟨ds, gs, before, [], pa, pv, hW, hres _ _ _, hargs _ hold, hvars _ hold, World.keptBut_mono (fun p hp => ⟨hp, ?_⟩) (hb.frame (· ∈ before)), fun _ => ?_⟩
  · rw [hps, List.mem_append] at hp
    exact Or.inr hp
  · obtain ⟨_, _, _, _, _, hz, hn⟩ := hW
    refine ⟨hok, _, _, ([] ++ pa) ++ pv, ⟨[] ++ pa, pv, trodAll_append (hargs _ (fun _ _ => rfl)) (hres _ _ _), hvars _ (fun _ _ => rfl), rfl, ?_, ?_⟩, ?_⟩
    · intro b off hp
      have hin : MemPlace.cell b off ∈ before := by rw [hps]; simpa using hp
      rw [hb.frozen (hlt _ hin)]
      exact hz b off hin
    · intro ha
      have := hn ha
      rw [hps] at this
      simpa using this
    · intro p hp _
      rw [hps]
      simpa using hp

theorem open_bytes {W : World} {r : Reach} {base : Nat} {v : Value} {d : DataW H} {ps : List MemPlace} (hval : Value.okWide Try.prog W r base 24 v) (hd : DataW.Trod enc Try.prog W 0 (fun _ => true) true 24 v d ps) :
    ∃ p c l, v = .slice p (List.length l) c ∧ SB W v l ∧ Bytes l ∧ ∀ W' : World, Below W.heap.size W W' → ∀ sp : Nat → Bool, (∀ x ∈ ps, sp x.block = true) → DataW.Trod enc Try.prog W' 0 sp true 24 v d ps := by
  obtain ⟨a1, len, cap, rfl⟩ := okWide_slice Try.underlying24 hval
  obtain ⟨fuel, hf⟩ := hd
  rcases open_ints Try.underlying24 Try.underlying5 cells_u8 hf with ⟨hcs, hx⟩ | ⟨a, len', cap', zs, hcs, hba, hl, hm, hz, hx, hcell, hwz⟩
  · simp [Value.cells] at hcs
    obtain ⟨rfl, rfl, rfl⟩ := hcs
    simp only [Prod.mk.injEq] at hx
    obtain ⟨rfl, rfl⟩ := hx
    exact ⟨none, 0, [], rfl, SB.nil _ _ _, Bytes.nil, fun W' _ sp _ => shut_slice_nil Try.underlying24⟩
  · simp [Value.cells] at hcs
    obtain ⟨rfl, rfl, rfl⟩ := hcs
    simp only [Prod.mk.injEq] at hx
    obtain ⟨rfl, rfl⟩ := hx
    simp only [if_true] at hz
    have hrange : ∀ i, i < zs.length → 0 ≤ zs.getD i 0 ∧ zs.getD i 0 ≤ 255 := fun i hi => by
      have : zs.getD i 0 = zs[i] := by simp [List.getD, hi]
      rw [this]
      exact wf_u8 (hwz _ (List.getElem_mem hi))
    obtain ⟨l, hL⟩ : ∃ l : List Nat, l = (List.range len).map fun i => (zs.getD i 0).toNat := ⟨_, rfl⟩
    have ll : l.length = len := by rw [hL]; simp
    have bl : Bytes l := fun x hx => by
      rw [hL] at hx
      obtain ⟨i, hi, rfl⟩ := List.mem_map.1 hx
      have := hrange i (by have := List.mem_range.1 hi; omega)
      omega
    refine ⟨some a, cap, l, by rw [ll], ⟨some a, cap, by rw [ll], by rw [ll]; exact hl, ?_⟩, bl, ?_⟩
    · by_cases h0 : len = 0
      · exact Or.inl (List.eq_nil_of_length_eq_zero (by omega))
      · right
        obtain ⟨b, off, spot⟩ := a
        have hspot : spot = none := by simpa [Addr.add] using World.cell?_spot (hcell 0 (by omega))
        subst hspot
        have hc : ∀ i, i < zs.length → W.cell? ⟨b, off + i, none⟩ = some (.int .u8 (zs.getD i 0)) := fun i hi => by
          have := hcell i hi
          rw [Addr.add_lit] at this
          exact this
        refine ⟨b, off, rfl, fun i hi => ?_, World.block_lt_of_cell? _ _ (hc 0 (by omega))⟩
        have hr := hrange i (by omega)
        rw [hc i (by omega)]
        congr 2
        have : l[i] = (zs.getD i 0).toNat := by simp only [hL, List.getElem_map, List.getElem_range]
        omega
    · intro W' hb sp hsp
      refine ⟨2, shut_ints 0 Try.underlying24 Try.underlying5 cells_u8 (Nat.zero_le _) hl hm ?_ ?_ hwz⟩
      · by_cases h0 : cap = 0
        · have : len = 0 := by omega
          rw [hz, h0, this]
          simp
        · have : sp a.block = true := hsp (.cell a.block (a.off + 0)) (by
            simp only [MemPlace.row, List.mem_map, List.mem_range]
            exact ⟨0, by omega, rfl⟩)
          rw [this, hz]
          simp
      · intro i hi
        rw [← hcell i hi]
        refine hb.cell ?_
        have := World.block_lt_of_cell? _ _ (hcell i hi)
        exact this
end
end Go.Proofs.Yteaddadmdjjfaaa
