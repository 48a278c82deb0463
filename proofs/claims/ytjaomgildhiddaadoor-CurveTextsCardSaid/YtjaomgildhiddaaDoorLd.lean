/- How a Key reads as data, opened and shut; the row's last step from 'Below'. -/
import Derived.Test.YtjaomgildhiddaaDoorFm
import Derived.ProofKit
import Derived.OpenShut
import Derived.DataShut
import Derived.ChangeSame
import Derived.JoinedOf
import Derived.JoinedAt
import Derived.RowKit3
namespace Go.Proofs.YtjaomgildhiddaaDoor
open Go.ChangeShapes Go.WideShapes Go.ChangeAt Go.RowKit

theorem cells_key : Tryd.prog.cellsOf 23 = 32 := by kernel_rfl
theorem cells_u8 : Tryd.prog.cellsOf 5 = 1 := by kernel_rfl
theorem wf_u8 {n : Int} (h : (Lit.int .u8 n).wf = true) : 0 ≤ n ∧ n ≤ 255 := by
  simp [Lit.wf, IntKind.min, IntKind.max, IntKind.signed, IntKind.bits] at h
  omega

section
variable {H : Type} {enc : TypeId × Value → H}
/-- A Key's data. -/
def keyData (l : List Int) : DataW H := .agg (l.map fun n => .lit (.int .u8 n))
theorem shut_key {w : World} {base : Nat} {sp : Nat → Bool} {held : Bool} (l : List Int) (hl : l.length = 32) (hwf : ∀ n ∈ l, (Lit.int .u8 n).wf = true) :
    DataW.Trod enc Tryd.prog w base sp held 23 (Key l) (keyData l) [] := by
  refine ⟨2, ?_⟩
  have e : (List.range 32).mapM (fun i => DataW.trod enc Tryd.prog w base sp held 1 5 (((l.map (Value.int .u8)).drop i).take 1)) = some (l.map fun n => ((.lit (.int .u8 n) : DataW H), ([] : List MemPlace))) := by
    apply mapM_some_of_get
    · simp [hl]
    · intro i x hx
      have hi : i < 32 := by
        have := List.getElem?_eq_some_iff.1 hx
        obtain ⟨h, _⟩ := this
        simpa using h
      have hxi : x = i := by
        rw [List.getElem?_eq_getElem (by simpa using hi)] at hx
        simpa using hx.symm
      subst hxi
      have hix : x < l.length := by omega
      have hd : ((l.map (Value.int .u8)).drop x).take 1 = [.int .u8 l[x]] := by
        rw [List.drop_eq_getElem_cons (by simpa using hix)]
        simp
      rw [hd]
      have hw := hwf l[x] (List.getElem_mem hix)
      simp [DataW.trod, Tryd.underlying5, hw, hix]
  unfold DataW.trod
  simp [Key, Iv, Value.cells, Tryd.underlying23, cells_key, cells_u8, hl, keyData]
  refine ⟨_, e, ?_, ?_⟩
  · simp
  · intro a b h
    simp only [List.mem_map, Prod.mk.injEq] at h
    obtain ⟨_, _, _, h⟩ := h
    exact h.symm

theorem open_key {w : World} {r : Reach} {b0 base : Nat} {sp : Nat → Bool} {held : Bool} {v : Value} {d : DataW H} {ps : List MemPlace}
    (hval : Value.okWide Tryd.prog w r b0 23 v) (hd : DataW.Trod enc Tryd.prog w base sp held 23 v d ps) :
    ∃ l f, v = Key l ∧ d = keyData l ∧ ps = [] ∧ Bytes32 l f ∧ ∀ n ∈ l, (Lit.int .u8 n).wf = true := by
  obtain ⟨cs, rfl, hsz, _⟩ : ∃ cs, v = .agg cs ∧ cs.size = Tryd.prog.cellsOf 23 ∧ Row.okWide Tryd.prog w r b0 23 cs := by
    simpa [Value.okWide, Tryd.underlying23] using hval
  rw [cells_key] at hsz
  obtain ⟨fuel, hf⟩ := hd
  obtain ⟨xs, m, rfl, hx, hlen, hn, hel⟩ := DataW.trod_array Tryd.underlying23 hf
  have hel2 : ∀ i, i < 32 → ∃ n, cs[i]? = some (.int .u8 n) ∧ xs[i]? = some (.lit (.int .u8 n), []) ∧ (Lit.int .u8 n).wf = true := by
    intro i hi
    have h0 := hel i hi
    rw [cells_u8, Nat.mul_one] at h0
    cases hxi : xs[i]? with
    | none => rw [List.getElem?_eq_none_iff] at hxi; omega
    | some y =>
      rw [hxi] at h0
      obtain ⟨n, hc, rfl, hw⟩ := DataW.trod_int Tryd.underlying5 h0
      refine ⟨n, ?_, rfl, hw⟩
      have hi2 : i < cs.toList.length := by simp; omega
      have : ((cs.toList.drop i).take 1) = [.int .u8 n] := hc
      rw [List.drop_eq_getElem_cons hi2] at this
      simp at this
      rw [Array.getElem?_eq_getElem (by omega), this]
  obtain ⟨l, hl⟩ : ∃ l : List Int, l = (List.range 32).map fun i => match cs[i]? with | some (.int .u8 n) => n | _ => 0 := ⟨_, rfl⟩
  have hlen32 : l.length = 32 := by simp [hl]
  have hget : ∀ i (h : i < 32), cs[i]? = some (.int .u8 (l.getD i 0)) ∧ xs[i]? = some (.lit (.int .u8 (l.getD i 0)), []) ∧ (Lit.int .u8 (l.getD i 0)).wf = true := by
    intro i h
    obtain ⟨n, h1, h2, h3⟩ := hel2 i h
    have : l.getD i 0 = n := by
      rw [hl]
      simp [h, h1]
    rw [this]
    exact ⟨h1, h2, h3⟩
  have hcs : cs = Iv .u8 l := by
    apply Array.ext_getElem?
    intro i
    by_cases h : i < 32
    · rw [(hget i h).1, Iv_get _ _ _ (by omega)]
    · rw [Array.getElem?_eq_none (by omega), Array.getElem?_eq_none (by rw [Iv_size]; omega)]
  have hxs : xs = l.map fun n => ((.lit (.int .u8 n) : DataW H), ([] : List MemPlace)) := by
    apply List.ext_getElem?
    intro i
    by_cases h : i < 32
    · rw [(hget i h).2.1]
      simp [hlen32, h]
    · rw [List.getElem?_eq_none (by omega), List.getElem?_eq_none (by simp; omega)]
  have hwf : ∀ n ∈ l, (Lit.int .u8 n).wf = true := by
    intro n hn2
    obtain ⟨i, hi, rfl⟩ := List.getElem_of_mem hn2
    have := (hget i (by omega)).2.2
    simpa [hi] using this
  have hb : ∀ i, 0 ≤ l.getD i 0 ∧ l.getD i 0 ≤ 255 := by
    intro i
    by_cases h : i < 32
    · exact wf_u8 (hget i h).2.2
    · have : l.getD i 0 = 0 := by simp [List.getD, show l.length ≤ i by omega]
      omega
  subst hxs
  simp only [Prod.mk.injEq] at hx
  refine ⟨l, fun i => (l.getD i 0).toNat, by rw [hcs]; rfl, ?_, ?_, ⟨hlen32, fun i h => ?_, fun i => ?_⟩, hwf⟩
  · rw [hx.1, keyData, List.map_map]
    rfl
  · rw [hx.2]
    simp
  · have := hb i
    omega
  · have := hb i
    omega
/-- The row's last step where the call leaves what was there as it was. -/
theorem post_below {P : Program} {f : Func} {s : ChangeSpec} {apart fresh handsOn again : Bool} {W W' : World} {args : Array Value} {v : Value} {ds gs : List (DataW H)} {before pa pv : List MemPlace}
    (hW : DataW.Whole enc P f.params.toList s.vars apart W args.toList ds gs before)
    (hres : ∀ (b : Nat) (sp : Nat → Bool) (hd : Bool), DataW.TrodAll enc P W' b sp hd f.resultTypes.toList (v.resultList f.resultTypes.size) (s.fn H (ds ++ gs)).results [])
    (hargs : ∀ sp : Nat → Bool, DataW.TrodAll enc P W' 0 sp true f.params.toList args.toList (s.fn H (ds ++ gs)).args pa)
    (hvars : ∀ sp : Nat → Bool, DataW.TrodVars enc P W' sp s.vars (s.fn H (ds ++ gs)).vars pv)
    (hps : before = pa ++ pv) (hb : Below W.heap.size W W')
    (hok : ∀ (j : Nat) (t : TypeId) (r : Value), f.resultTypes[j]? = some t → (v.resultList f.resultTypes.size)[j]? = some r → Value.okWide P W' .any 0 t r) :
    s.post enc P f apart fresh handsOn again W args v W' := by
  have hlt : ∀ p ∈ before, p.block < W.heap.size := fun p hp => hW.lt p hp
  refine ⟨ds, gs, before, [], pa, pv, hW, hres _ _ _, hargs _, hvars _, World.keptBut_mono (fun p hp => ⟨hp, ?_⟩) (hb.frame (· ∈ before)), fun _ => ?_⟩
  · rw [hps, List.mem_append] at hp
    exact Or.inr hp
  · obtain ⟨_, _, _, _, _, hz, hn⟩ := hW
    refine ⟨hok, _, _, ([] ++ pa) ++ pv, ⟨[] ++ pa, pv, trodAll_append (hargs _) (hres _ _ _), hvars _, rfl, ?_, ?_⟩, ?_⟩
    · intro b off hp
      have hin : MemPlace.cell b off ∈ before := by rw [hps]; simpa using hp
      rw [hb.frozen (hlt _ hin)]
      exact hz b off hin
    · intro ha
      have := hn ha
      rw [hps] at this
      simpa using this
    · intro p hp _
      rw [hps]
      simpa using hp
end
end Go.Proofs.YtjaomgildhiddaaDoor
