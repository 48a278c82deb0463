/- A region that draws its order, under a fact on the memory that stands throughout. -/
import Derived.Test.YtjaomgildhiddaaDoorLl
import Derived.Test.YtjaomgildhiddaaDoorCi
import Derived.Great.BuildSlice
namespace Go.Proofs.YtjaomgildhiddaaDoor
open Go.RowKit

section
variable {P : Program} {md : Region.Mode} {ops : Array Oper} {Q : Exit → Act → World → Prop} {S : World → Prop}

def wpAnyS (P : Program) (md : Region.Mode) (ops : Array Oper) (Q : Exit → Act → World → Prop) (S : World → Prop) : Nat → Array Bool → Act → World → Prop
  | 0, listed, a, w => Region.ready md ops listed = [] ∧ Q .normal a w
  | fuel + 1, listed, a, w =>
    (Region.ready md ops listed = [] → Q .normal a w) ∧
    ∀ i ∈ Region.ready md ops listed, wpOp P ops Q i (fun a' w' => S w' ∧ wpAnyS P md ops Q S fuel (listed.setIfInBounds i true) a' w') a w

theorem wpAny_of_S : ∀ (fuel : Nat) (listed : Array Bool) (a : Act) (w : World), wpAnyS P md ops Q S fuel listed a w → wpAny P md ops Q fuel listed a w
  | 0, _, _, _, h => h
  | fuel + 1, _, _, _, h => ⟨h.1, fun i hi => wpOp_mono (fun a' w' h' => wpAny_of_S fuel _ a' w' h'.2) (h.2 i hi)⟩

theorem wpAnyS_first {i : Nat} {oi : Oper} {v : Value} (hi : ops[i]? = some oi) (hsel : ∀ (j : Nat) (o : Oper) cs b, ops[j]? = some o → o.op ≠ .select cs b)
    (hQ : ∀ c a w, Q (.panic c) (a.put oi.dst v) w → Q (.panic c) a w) :
    ∀ (fuel : Nat) (listed : Array Bool) (a : Act) (w : World),
      (∀ j oj, ops[j]? = some oj → j ≠ i → listed.getD j true = false → (∀ e ∈ oj.after, Region.binds md e = true → e.on ≠ i) → oi.apart ops oj = true) →
      i ∈ Region.ready md ops listed → YieldsIf P ops S oi v a → S w →
      wpAnyS P md ops Q S fuel (listed.setIfInBounds i true) (a.put oi.dst v) w → wpAnyS P md ops Q S (fuel + 1) listed a w := by
  intro fuel
  induction fuel with
  | zero =>
    intro listed a w _ hr hy hS H
    refine ⟨fun h => (by rw [h] at hr; cases hr), fun j hj => ?_⟩
    by_cases hji : j = i
    · subst hji; exact hy.wpOp hi hS ⟨hS, H⟩
    · have := ready_mono hj hji
      rw [H.1] at this
      cases this
  | succ fuel ih =>
    intro listed a w hfree hr hy hS H
    refine ⟨fun h => (by rw [h] at hr; cases hr), fun j hj => ?_⟩
    by_cases hji : j = i
    · subst hji; exact hy.wpOp hi hS ⟨hS, H⟩
    · have h1 := H.2 j (ready_mono hj hji)
      obtain ⟨hjun, oj, hoj, hall⟩ := mem_ready.1 hj
      have hnot : ∀ e ∈ oj.after, Region.binds md e = true → e.on ≠ i := fun e he hb heq => by
        have h1 := hall e he hb
        have h0 := (mem_ready.1 hr).1
        rw [heq] at h1
        rcases Nat.lt_or_ge i listed.size with h' | h'
        · simp [h'] at h0 h1; rw [h0] at h1; cases h1
        · simp [Array.getElem?_eq_none h'] at h1
      have h2 := wpOp_putIf hoj (hfree j oj hoj hji hjun hnot) (fun cs b => hsel i oi cs b hi) (fun cs b => hsel j oj cs b hoj) hQ hy h1
      have hfree' : ∀ k ok, ops[k]? = some ok → k ≠ i → (listed.setIfInBounds j true).getD k true = false →
          (∀ e ∈ ok.after, Region.binds md e = true → e.on ≠ i) → oi.apart ops ok = true := fun k ok hk hki hun hno => by
        refine hfree k ok hk hki ?_ hno
        by_cases hjk : j = k
        · subst hjk; exact hjun
        · rw [getD_set_ne true hjk] at hun; exact hun
      refine wpOp_mono (fun a' w' h3 => ⟨h3.2.1, ih (listed.setIfInBounds j true) a' w' hfree' (ready_mono hr (Ne.symm hji)) h3.1 h3.2.1 ?_⟩) h2
      rw [Array.setIfInBounds_comm _ _ hji]
      exact h3.2.2

theorem wpAnyS_takeL (i : Nat) {oi : Oper} {v : Value} {fuel : Nat} {listed : Array Bool} {a : Act} {w : World} (hi : ops.toList[i]? = some oi)
    (hs : Region.noSelect ops = true) (hf : Region.free md ops listed i = true) (hr : (Region.ready md ops listed).contains i = true)
    (hQ : ∀ c a w, Q (.panic c) (a.put oi.dst v) w → Q (.panic c) a w) (hy : YieldsIf P ops S oi v a) (hS : S w)
    (h : wpAnyS P md ops Q S fuel (listed.setIfInBounds i true) (a.put oi.dst v) w) : wpAnyS P md ops Q S (fuel + 1) listed a w :=
  wpAnyS_first (by rw [← hi, Array.getElem?_toList]) (Region.noSelect_spec hs) hQ fuel listed a w (Region.free_spec (by rw [← hi, Array.getElem?_toList]) hf) (by simpa using hr) hy hS h
theorem wpAnyS_one {i : Nat} {fuel : Nat} {listed : Array Bool} {a : Act} {w : World} (hr : Region.ready md ops listed = [i])
    (h : wpOp P ops Q i (fun a' w' => S w' ∧ wpAnyS P md ops Q S fuel (listed.setIfInBounds i true) a' w') a w) : wpAnyS P md ops Q S (fuel + 1) listed a w := by
  refine ⟨fun h0 => ?_, fun j hj => ?_⟩
  · rw [hr] at h0
    cases h0
  · rw [hr, List.mem_singleton] at hj
    subst hj
    exact h
theorem wpAnyS_done {listed : Array Bool} {a : Act} {w : World} (hr : Region.ready md ops listed = []) (h : Q .normal a w) : ∀ fuel, wpAnyS P md ops Q S fuel listed a w
  | 0 => ⟨hr, h⟩
  | _ + 1 => ⟨fun _ => h, by rw [hr]; simp⟩
theorem wp_region_S {id : Nat} {a : Act} {w : World} (hm : P.follows .mixedOrders = true)
    (h : wpAnyS P .any ops Q S ops.size (Array.replicate ops.size false) a w.drew) : (Code.region id ops true).wp P Q a w :=
  wp_region_any hm (wpAny_of_S _ _ _ _ h)
end

end Go.Proofs.YtjaomgildhiddaaDoor
/- Jobs of a drawn region of which some give what is known by a word alone, and others look at those: one way through them all. -/
namespace Go.Proofs.YtjaomgildhiddaaDoor
open Go.RowKit
section
variable {P : Program} {md : Region.Mode} {ops : Array Oper} {Q : Exit → Act → World → Prop}

/-- A job's word, where what it looks at meets its own. -/
def JobR (P : Program) (ops : Array Oper) (Q : Exit → Act → World → Prop) (S : World → Prop) (pre : List Job) (R : Nat → Value → World → Prop) (a : Act) (j : Job) : Prop :=
  ∀ (f : Nat → Value) (w : World) (K : Act → World → Prop), S w → (∀ k ∈ pre, R k.i (f k.i) w) →
    (∀ v w', R j.i v w' → Below w.heap.size w w' → K ((putAll f pre a).put (some j.d) v) w') → wpOp P ops Q j.i K (putAll f pre a) w
theorem jobs_frameR (J : List Job) (l : Array Bool)
    (hjs : ∀ (x : Job), x ∈ J → (l.getD x.i true = false ∧ x.i < l.size) ∧ ∀ (y : Job), y ∈ J → (y.i = x.i ∨ (y.d == x.d) = false) ∧
      (match ops[x.i]? with | some o => !(o.looksAt ops).contains y.d || (true && y.i != x.i && o.after.any fun e => Region.binds md e && e.on == y.i) | none => false) = true)
    (hdd : ∀ x ∈ J, ∀ y ∈ J, x = y ∨ x.d ≠ y.d)
    {rem done : List Job} {f : Nat → Value} (hp : (rem ++ done).Perm J) (hdJ : ∀ j ∈ done, j ∈ J) (hrJ : ∀ j ∈ rem, j ∈ J) (hsep : ∀ j ∈ rem, ∀ k ∈ done, k.i ≠ j.i)
    (hun : ∀ j ∈ rem, (setAll done l).getD j.i true = false) (j : Job) (hj : j ∈ rem) (o : Oper) (ho : ops[j.i]? = some o)
    (hall : ∀ e ∈ o.after, Region.binds md e = true → (setAll done l).getD e.on false = true) :
    (∀ b : Act, putAll f done b = putAll f (done.filter (fun k => !(o.looksAt ops).contains k.d)) (putAll f (predsOf ops J j) b)) ∧ ∀ k ∈ predsOf ops J j, k ∈ done := by
  have hjJ := hrJ j hj
  -- what the job looks at has come up
  have hlook : ∀ k ∈ J, k.d ∈ o.looksAt ops → k ∈ done := fun k hk h => by
    have h1 := ((hjs j hjJ).2 k hk).2
    rw [ho] at h1
    have h0 : (o.looksAt ops).contains k.d = true := by simpa using h
    simp only [h0, Bool.not_true, Bool.false_or, Bool.and_eq_true] at h1
    obtain ⟨⟨_, hkj⟩, hed⟩ := h1
    obtain ⟨e, he, hb2⟩ := Array.any_eq_true'.1 hed
    simp only [Bool.and_eq_true, beq_iff_eq] at hb2
    have h2 := hall e he hb2.1
    rw [hb2.2] at h2
    rcases List.mem_append.1 (hp.mem_iff.2 hk) with h3 | h3
    · exfalso
      have hlt : k.i < (setAll done l).size := by rw [setAll_size]; exact (hjs k hk).1.2
      rw [← getD_true_false hlt, hun k h3] at h2
      cases h2
    · exact h3
  have hpr : predsOf ops J j = J.filter fun k => (o.looksAt ops).contains k.d := by unfold predsOf; rw [ho]
  -- the frame: what is looked at lies under the rest
  have hsplit : (done.filter (fun k => !(o.looksAt ops).contains k.d) ++ done.filter (fun k => (o.looksAt ops).contains k.d)).Perm done :=
    (List.perm_append_comm).trans (List.filter_append_perm (fun k => (o.looksAt ops).contains k.d) done)
  have hpp : (done.filter fun k => (o.looksAt ops).contains k.d).Perm (predsOf ops J j) := by
    rw [hpr]
    have h1 : ((rem ++ done).filter fun k => (o.looksAt ops).contains k.d).Perm (J.filter fun k => (o.looksAt ops).contains k.d) := hp.filter _
    rw [List.filter_append] at h1
    have h2 : (rem.filter fun k => (o.looksAt ops).contains k.d) = [] := by
      rw [List.filter_eq_nil_iff]
      intro k hk h3
      have h4 := hlook k (hrJ k hk) (by simpa using h3)
      exact hsep k hk k h4 rfl
    rw [h2, List.nil_append] at h1
    exact h1
  refine ⟨fun b => ?_, fun k hk => ?_⟩
  · rw [← putAll_perm (a := b) (f := f) hsplit (fun x hx y hy => hdd x (hdJ x (hsplit.mem_iff.1 hx)) y (hdJ y (hsplit.mem_iff.1 hy))), putAll_append]
    congr 1
    exact putAll_perm hpp (fun x hx y hy => hdd x (hdJ x (List.mem_filter.1 hx).1) y (hdJ y (List.mem_filter.1 hy).1))
  · exact (List.mem_filter.1 (hpp.mem_iff.2 hk)).1
theorem wpAnyZ_jobsR {S : World → Prop} {z : Nat} (J : List Job) (R : Nat → Value → World → Prop) (fuel : Nat) (l : Array Bool) (a : Act) (w0 : World) (hok : jobsOkD md ops l J (fun _ => true) (fun _ => false) z = true)
    (hQ : ∀ c a d v w, Q (.panic c) a w → Q (.panic c) (a.put (some d) v) w)
    (hS : ∀ w w', S w → Below w.heap.size w w' → S w') (hR : ∀ j ∈ J, ∀ v w w', R j.i v w → Below w.heap.size w w' → R j.i v w')
    (hjob : ∀ j ∈ J, JobR P ops Q S (predsOf ops J j) R a j) (hS0 : S w0)
    (hend : ∀ (f : Nat → Value) (w : World), S w → Below w0.heap.size w0 w → (∀ j ∈ J, R j.i (f j.i) w) → wpAnyZ P md ops Q S z fuel (setAll J l) (putAll f J a) w) :
    wpAnyZ P md ops Q S z (J.length + fuel) l a w0 := by
  unfold jobsOkD at hok
  simp only [Bool.and_eq_true] at hok
  obtain ⟨⟨⟨⟨⟨⟨hns, htopo⟩, hjs⟩, hrest⟩, hnd⟩, hlt⟩, hzJ⟩ := hok
  have hnd' : (J.map (·.i)).Nodup := of_decide_eq_true hnd
  simp only [List.all_eq_true, Bool.and_eq_true, Bool.not_eq_true', decide_eq_true_eq, Bool.or_eq_true, beq_iff_eq, List.mem_range, bne_iff_ne] at hjs hrest hlt hzJ
  have hinj : ∀ j ∈ J, ∀ k ∈ J, j.i = k.i → j = k := fun j hj k hk h => by
    have h1 := List.pairwise_map.1 hnd'
    rcases Decidable.em (j = k) with h2 | h2
    · exact h2
    · exact absurd h (pair_ne J h1 j hj k hk h2)
  have hdd : ∀ x ∈ J, ∀ y ∈ J, x = y ∨ x.d ≠ y.d := fun x hx y hy => by
    by_cases h : x.i = y.i
    · exact Or.inl (hinj x hx y hy h)
    · right
      rcases ((hjs x hx).2 y hy).1 with h2 | h2
      · exact absurd h2.symm h
      · exact fun h3 => by simp [h3] at h2
  suffices H : ∀ (n : Nat) (rem done : List Job) (f : Nat → Value) (w : World), rem.length = n → (rem ++ done).Perm J → S w → Below w0.heap.size w0 w → (∀ j ∈ done, R j.i (f j.i) w) →
      (∀ q ∈ done, ∀ o, ops[q.i]? = some o → ∀ e ∈ o.after, Region.binds md e = true → (setAll done l).getD e.on false = true) → wpAnyZ P md ops Q S z (n + fuel) (setAll done l) (putAll f done a) w by
    exact H J.length J [] (fun _ => undef) w0 rfl (by simp) hS0 (Below.refl _ _) (by simp) (by simp)
  intro n
  induction n with
  | zero =>
    intro rem done f w hn hp hSw hb hRd hcl
    have hr : rem = [] := List.length_eq_zero_iff.1 hn
    subst hr
    simp only [List.nil_append] at hp
    have e1 : setAll done l = setAll J l := hp.foldr_eq' (fun x _ y _ z => Classical.byCases (fun h : x.i = y.i => by rw [h]) (fun h => by rw [Array.setIfInBounds_comm _ _ h])) _
    have e2 : putAll f done a = putAll f J a := putAll_perm hp fun x hx y hy => hdd x (hp.mem_iff.1 hx) y (hp.mem_iff.1 hy)
    rw [e1, e2, Nat.zero_add]
    exact hend f w hSw hb (fun j hj => hRd j (hp.mem_iff.2 hj))
  | succ n ih =>
    intro rem done f w hn hp hSw hb hRd hcl
    have hdJ : ∀ j ∈ done, j ∈ J := fun j hj => hp.mem_iff.1 (by simp [hj])
    have hrJ : ∀ j ∈ rem, j ∈ J := fun j hj => hp.mem_iff.1 (by simp [hj])
    have hndp : ((rem ++ done).map (·.i)).Nodup := (hp.map _).nodup_iff.2 hnd'
    have hndd : (done.map (·.i)).Nodup := by
      rw [List.map_append, List.nodup_append] at hndp
      exact hndp.2.1
    have hsep : ∀ j ∈ rem, ∀ k ∈ done, k.i ≠ j.i := by
      rw [List.map_append, List.nodup_append] at hndp
      intro j hj k hk h
      exact hndp.2.2 j.i (List.mem_map_of_mem hj) k.i (List.mem_map_of_mem hk) h.symm
    have hun : ∀ j ∈ rem, (setAll done l).getD j.i true = false := fun j hj => by
      rw [setAll_get l j.i true done (hsep j hj)]
      exact (hjs j (hrJ j hj)).1.1
    have hrne : ∃ j, j ∈ rem := by
      cases rem with
      | nil => simp at hn
      | cons j r => exact ⟨j, by simp⟩
    obtain ⟨j0, hj0⟩ := hrne
    rw [show n + 1 + fuel = (n + fuel) + 1 by omega]
    refine ⟨fun h => absurd h (topo_ready J l htopo _ (fun i hi => setAll_mono l i hi done) (fun j hj => by rw [setAll_size]; exact (hjs j hj).1.2) ⟨j0, hrJ j0 hj0, hun j0 hj0⟩), fun i hi => ?_⟩
    obtain ⟨hiun, o, ho, hall⟩ := mem_ready.1 hi
    obtain ⟨j, hj, rfl⟩ : ∃ j ∈ rem, j.i = i := by
      rcases hrest i (Array.getElem?_eq_some_iff.1 ho).1 with h | h
      · rcases h with h | h
        rotate_left
        · exfalso
          rw [ho] at h
          obtain ⟨e, he, hb2⟩ := Array.any_eq_true'.1 h
          simp only [Bool.and_eq_true, Bool.not_eq_true', List.any_eq_false, beq_iff_eq] at hb2
          have h2 := hall e he hb2.1.1
          rw [setAll_get l e.on false done (fun k hk => hb2.2 k (hdJ k hk))] at h2
          have h3 := hb2.1.2
          have h4 : e.on < l.size := by
            rcases Nat.lt_or_ge e.on l.size with h' | h'
            · exact h'
            · simp [Array.getElem?_eq_none h'] at h3
          rw [getD_true_false h4, h2] at h3
          cases h3
        rcases h with h | h
        · exfalso
          by_cases hd : ∃ k ∈ done, k.i = i
          · obtain ⟨k, hk, rfl⟩ := hd
            rw [setAll_mem l true done (fun j hj => (hjs j (hdJ j hj)).1.2) k hk] at hiun
            cases hiun
          · rw [setAll_get l i true done (fun k hk h => hd ⟨k, hk, h⟩)] at hiun
            rw [hiun] at h
            cases h
        · obtain ⟨k, hk, hki⟩ := List.any_eq_true.1 h
          have hki' : k.i = i := by simpa using hki
          rcases List.mem_append.1 (hp.mem_iff.2 hk) with h1 | h1
          · exact ⟨k, h1, hki'⟩
          · exfalso
            rw [← hki', setAll_mem l true done (fun j hj => (hjs j (hdJ j hj)).1.2) k h1] at hiun
            cases hiun
      · exfalso
        have h1 := (h j0 (hrJ j0 hj0)).resolve_left (by decide)
        have h2 := reachJ_spec (L := setAll done l) (fun q hq hql => by
          rcases List.mem_append.1 (hp.mem_iff.2 hq) with h3 | h3
          · exfalso
            have h4 : q.i < (setAll done l).size := by rw [setAll_size]; exact (hjs q hq).1.2
            rw [← getD_true_false h4, hun q h3] at hql
            cases hql
          · exact h3) hcl (fun q hq => topo_some J l htopo q hq) _ i j0.i o ho hall h1
        have hlt : j0.i < (setAll done l).size := by rw [setAll_size]; exact (hjs j0 (hrJ j0 hj0)).1.2
        rw [← getD_true_false hlt, hun j0 hj0] at h2
        cases h2
    have hjJ := hrJ j hj
    have hdst : o.dst = some j.d := topo_dst J l htopo j hjJ o ho
    obtain ⟨hframe, hpre⟩ := jobs_frameR (f := f) J l hjs hdd hp hdJ hrJ hsep hun j hj o ho hall
    have hne : ∀ k ∈ done, k.d ≠ j.d := fun k hk => by
      rcases ((hjs j hjJ).2 k (hdJ k hk)).1 with h1 | h1
      · exact absurd h1 (hsep j hj k hk)
      · simpa using h1
    rw [hframe a]
    refine wpOp_putAll ho (fun cs b => Region.noSelect_spec hns j.i o cs b ho) hdst hQ f _ _ _ (fun k hk h => ?_) (fun k hk => hne k (List.mem_filter.1 hk).1) ?_
    · have := (List.mem_filter.1 hk).2
      simp [h] at this
    refine hjob j hjJ f w _ hSw (fun k hk => hRd k (hpre k hk)) fun v w' hv hbw => ?_
    have hf : ∀ k ∈ done, f k.i = updJ f j.i v k.i := fun k hk => (updJ_ne f j.i v k.i (hsep j hj k hk)).symm
    have hvj : updJ f j.i v j.i = v := updJ_self f j.i v
    rw [putAll_put f j.d v _ _ (fun k hk => hne k (List.mem_filter.1 hk).1), ← hframe a, putAll_same (g := updJ f j.i v) a done hf, show ((putAll (updJ f j.i v) done a).put (some j.d) v) = putAll (updJ f j.i v) (j :: done) a from by
      show _ = (putAll (updJ f j.i v) done a).put (some j.d) (updJ f j.i v j.i)
      rw [hvj]]
    have hb2 : Below w0.heap.size w0 w' := hb.trans (hbw.mono hb.size)
    refine ⟨fun _ => hS w w' hSw hbw, ih (rem.erase j) (j :: done) _ w' (by rw [List.length_erase_of_mem hj, hn]; rfl) ?_ (hS w w' hSw hbw) hb2 ?_ ?_⟩
    · refine List.Perm.trans ?_ hp
      have h1 : (rem.erase j ++ j :: done).Perm (j :: (rem.erase j ++ done)) := List.perm_middle
      exact h1.trans ((List.perm_cons_erase hj).symm.append_right done)
    · intro k hk
      rcases List.mem_cons.1 hk with rfl | hk
      · rw [hvj]; exact hv
      · rw [← hf k hk]; exact hR k (hdJ k hk) _ _ _ (hRd k hk) hbw
    · intro k hk oq hoq e he hbe
      show ((setAll done l).setIfInBounds j.i true).getD e.on false = true
      rcases List.mem_cons.1 hk with h1 | h1
      · subst h1
        obtain rfl : oq = o := Option.some.inj (hoq.symm.trans ho)
        exact getD_set_true (hall e he hbe)
      · exact getD_set_true (hcl k h1 oq hoq e he hbe)


theorem wpAnyZ_jobsRL {S : World → Prop} {z : Nat} (L : List (Job × Spec)) (fuel : Nat) (l : Array Bool) (a : Act) (w0 : World) (hok : jobsOkD md ops l (L.map (·.1)) (fun _ => true) (fun _ => false) z = true)
    (hQ : ∀ c a d v w, Q (.panic c) a w → Q (.panic c) (a.put (some d) v) w)
    (hS : ∀ w w', S w → Below w.heap.size w w' → S w') (hS0 : S w0)
    (hR : ∀ j ∈ L.map (·.1), ∀ v w w', (specOf L j.i).holds v w → Below w.heap.size w w' → (specOf L j.i).holds v w')
    (hjob : ∀ j ∈ L.map (·.1), JobR P ops Q S (predsOf ops (L.map (·.1)) j) (fun i => (specOf L i).holds) a j)
    (hend : ∀ (f : Nat → Value) (w : World), S w → Below w0.heap.size w0 w → (∀ j ∈ L.map (·.1), (specOf L j.i).holds (f j.i) w) → wpAnyZ P md ops Q S z fuel (setAll (L.map (·.1)) l) (putAll f (L.map (·.1)) a) w) :
    wpAnyZ P md ops Q S z ((L.map (·.1)).length + fuel) l a w0 :=
  wpAnyZ_jobsR (L.map (·.1)) (fun i => (specOf L i).holds) fuel l a w0 hok hQ hS hR hjob hS0 hend
theorem jobR_frame {S : World → Prop} {pre : List Job} (pre' : List Job) (hp : pre = pre') {R : Nat → Value → World → Prop} {a : Act} {j : Job} (h : JobR P ops Q S pre' R a j) : JobR P ops Q S pre R a j := hp ▸ h
end
end Go.Proofs.YtjaomgildhiddaaDoor
/- Points in memory: four numbers in one block of 20 cells; parts read, built, stored; walks' steps that speak of points (printed by genpa.py). -/
namespace Go.Proofs.YtjaomgildhiddaaDoor
open Go.RowKit

def el0 (n : Nat) : Value := .int .u64 ((n : Int) % 2251799813685248)
def el1 (n : Nat) : Value := .int .u64 ((n : Int) / 2251799813685248 % 2251799813685248)
def el2 (n : Nat) : Value := .int .u64 ((n : Int) / 5070602400912917605986812821504 % 2251799813685248)
def el3 (n : Nat) : Value := .int .u64 ((n : Int) / 11417981541647679048466287755595961091061972992 % 2251799813685248)
def el4 (n : Nat) : Value := .int .u64 ((n : Int) / 25711008708143844408671393477458601640355247900524685364822016)
theorem El_is (n : Nat) : El_cells n = #[el0 n, el1 n, el2 n, el3 n, el4 n] := rfl
def Pc (p : P4) : Array Value := #[el0 p.x, el1 p.x, el2 p.x, el3 p.x, el4 p.x, el0 p.y, el1 p.y, el2 p.y, el3 p.y, el4 p.y, el0 p.z, el1 p.z, el2 p.z, el3 p.z, el4 p.z, el0 p.t, el1 p.t, el2 p.t, el3 p.t, el4 p.t]
def PV (p : P4) : Value := .agg (Pc p)
theorem Pc_size (p : P4) : (Pc p).size = 20 := rfl
theorem Pc_one (p : P4) : (Pc p).all (·.oneCell') = true := by simp [Pc, el0, el1, el2, el3, el4, Value.oneCell']
theorem info_Pc (p : P4) : (Tryd.prog.info? 38).map (·.size) = some (Pc p).size := by kernel_rfl
theorem info_El5 (n : Nat) : (Tryd.prog.info? 36).map (·.size) = some (El_cells n).toList.length := by kernel_rfl
theorem El_lit (x : Nat) : ∃ v0 v1 v2 v3 v4 : Value, El_cells x = #[v0, v1, v2, v3, v4] := ⟨_, _, _, _, _, rfl⟩
def p40 : P4 := ⟨0, 0, 0, 0⟩
def P4.at (p : P4) (k : Nat) : Nat := if k = 0 then p.x else if k = 5 then p.y else if k = 10 then p.z else p.t
theorem rangePc0 {w : World} {g : Nat} {t : TypeId} {p : P4} (h : Blk w g t (Pc p)) : w.rangeAt g 0 (El_cells p.x).toList := fun j v hv => by
  have hj : j < 5 := (List.getElem?_eq_some_iff.1 hv).1
  rw [h.cell, ← hv]
  rw [El_is]
  have : j = 0 ∨ j = 1 ∨ j = 2 ∨ j = 3 ∨ j = 4 := by omega
  rcases this with rfl | rfl | rfl | rfl | rfl <;> rfl
theorem yieldsIf_pl0 {ops : Array Oper} {L : List Fact} {o : Oper} {a : Act} (hgd : Region.wanted o (yielded ops a.tmps) = true) (x : Operand) (ho : o.op = .load 36 x) (g : Nat) (hx : a.eval x = .pointer (some ⟨g, 0, none⟩))
    (t : TypeId) (p : P4) (hm : Fact.blk g t (Pc p) ∈ L) : YieldsIf Tryd.prog ops (Facts L) o (El p.x) a :=
  yieldsIf_load_mid hgd 36 x ho g 0 hx (El_cells p.x).toList _ (fun _ h => rangePc0 (h.blkAt g t _ hm)) Tryd.underlying36 rfl (info_El5 p.x)
theorem rangePc5 {w : World} {g : Nat} {t : TypeId} {p : P4} (h : Blk w g t (Pc p)) : w.rangeAt g 5 (El_cells p.y).toList := fun j v hv => by
  have hj : j < 5 := (List.getElem?_eq_some_iff.1 hv).1
  rw [h.cell, ← hv]
  rw [El_is]
  have : j = 0 ∨ j = 1 ∨ j = 2 ∨ j = 3 ∨ j = 4 := by omega
  rcases this with rfl | rfl | rfl | rfl | rfl <;> rfl
theorem yieldsIf_pl5 {ops : Array Oper} {L : List Fact} {o : Oper} {a : Act} (hgd : Region.wanted o (yielded ops a.tmps) = true) (x : Operand) (ho : o.op = .load 36 x) (g : Nat) (hx : a.eval x = .pointer (some ⟨g, 5, none⟩))
    (t : TypeId) (p : P4) (hm : Fact.blk g t (Pc p) ∈ L) : YieldsIf Tryd.prog ops (Facts L) o (El p.y) a :=
  yieldsIf_load_mid hgd 36 x ho g 5 hx (El_cells p.y).toList _ (fun _ h => rangePc5 (h.blkAt g t _ hm)) Tryd.underlying36 rfl (info_El5 p.y)
theorem rangePc10 {w : World} {g : Nat} {t : TypeId} {p : P4} (h : Blk w g t (Pc p)) : w.rangeAt g 10 (El_cells p.z).toList := fun j v hv => by
  have hj : j < 5 := (List.getElem?_eq_some_iff.1 hv).1
  rw [h.cell, ← hv]
  rw [El_is]
  have : j = 0 ∨ j = 1 ∨ j = 2 ∨ j = 3 ∨ j = 4 := by omega
  rcases this with rfl | rfl | rfl | rfl | rfl <;> rfl
theorem yieldsIf_pl10 {ops : Array Oper} {L : List Fact} {o : Oper} {a : Act} (hgd : Region.wanted o (yielded ops a.tmps) = true) (x : Operand) (ho : o.op = .load 36 x) (g : Nat) (hx : a.eval x = .pointer (some ⟨g, 10, none⟩))
    (t : TypeId) (p : P4) (hm : Fact.blk g t (Pc p) ∈ L) : YieldsIf Tryd.prog ops (Facts L) o (El p.z) a :=
  yieldsIf_load_mid hgd 36 x ho g 10 hx (El_cells p.z).toList _ (fun _ h => rangePc10 (h.blkAt g t _ hm)) Tryd.underlying36 rfl (info_El5 p.z)
theorem rangePc15 {w : World} {g : Nat} {t : TypeId} {p : P4} (h : Blk w g t (Pc p)) : w.rangeAt g 15 (El_cells p.t).toList := fun j v hv => by
  have hj : j < 5 := (List.getElem?_eq_some_iff.1 hv).1
  rw [h.cell, ← hv]
  rw [El_is]
  have : j = 0 ∨ j = 1 ∨ j = 2 ∨ j = 3 ∨ j = 4 := by omega
  rcases this with rfl | rfl | rfl | rfl | rfl <;> rfl
theorem yieldsIf_pl15 {ops : Array Oper} {L : List Fact} {o : Oper} {a : Act} (hgd : Region.wanted o (yielded ops a.tmps) = true) (x : Operand) (ho : o.op = .load 36 x) (g : Nat) (hx : a.eval x = .pointer (some ⟨g, 15, none⟩))
    (t : TypeId) (p : P4) (hm : Fact.blk g t (Pc p) ∈ L) : YieldsIf Tryd.prog ops (Facts L) o (El p.t) a :=
  yieldsIf_load_mid hgd 36 x ho g 15 hx (El_cells p.t).toList _ (fun _ h => rangePc15 (h.blkAt g t _ hm)) Tryd.underlying36 rfl (info_El5 p.t)
theorem yieldsIf_pf0 {ops : Array Oper} {S : World → Prop} {o : Oper} {a : Act} (hgd : Region.wanted o (yielded ops a.tmps) = true) (x : Operand) (ho : o.op = .fieldAddr 38 x 0) (g : Nat) (hx : a.eval x = .pointer (some ⟨g, 0, none⟩)) :
    YieldsIf Tryd.prog ops S o (.pointer (some ⟨g, 0, none⟩)) a := Or.inl ⟨hgd, fun w _ => by
  simp only [execOp, ho, hx]
  go_simp⟩
theorem yieldsIf_pf5 {ops : Array Oper} {S : World → Prop} {o : Oper} {a : Act} (hgd : Region.wanted o (yielded ops a.tmps) = true) (x : Operand) (ho : o.op = .fieldAddr 38 x 1) (g : Nat) (hx : a.eval x = .pointer (some ⟨g, 0, none⟩)) :
    YieldsIf Tryd.prog ops S o (.pointer (some ⟨g, 5, none⟩)) a := Or.inl ⟨hgd, fun w _ => by
  simp only [execOp, ho, hx]
  go_simp⟩
theorem yieldsIf_pf10 {ops : Array Oper} {S : World → Prop} {o : Oper} {a : Act} (hgd : Region.wanted o (yielded ops a.tmps) = true) (x : Operand) (ho : o.op = .fieldAddr 38 x 2) (g : Nat) (hx : a.eval x = .pointer (some ⟨g, 0, none⟩)) :
    YieldsIf Tryd.prog ops S o (.pointer (some ⟨g, 10, none⟩)) a := Or.inl ⟨hgd, fun w _ => by
  simp only [execOp, ho, hx]
  go_simp⟩
theorem yieldsIf_pf15 {ops : Array Oper} {S : World → Prop} {o : Oper} {a : Act} (hgd : Region.wanted o (yielded ops a.tmps) = true) (x : Operand) (ho : o.op = .fieldAddr 38 x 3) (g : Nat) (hx : a.eval x = .pointer (some ⟨g, 0, none⟩)) :
    YieldsIf Tryd.prog ops S o (.pointer (some ⟨g, 15, none⟩)) a := Or.inl ⟨hgd, fun w _ => by
  simp only [execOp, ho, hx]
  go_simp⟩
theorem yieldsIf_pt {ops : Array Oper} {S : World → Prop} {o : Oper} {a : Act} (hgd : Region.wanted o (yielded ops a.tmps) = true) (x y z t : Operand) (ho : o.op = .build 38 #[(0, x), (1, y), (2, z), (3, t)]) (X Y Z T : Nat) (hx : a.eval x = El X) (hy : a.eval y = El Y) (hz : a.eval z = El Z) (ht : a.eval t = El T) :
    YieldsIf Tryd.prog ops S o (PV ⟨X, Y, Z, T⟩) a := Or.inl ⟨hgd, fun w _ => by
  unfold El El_cells at hx hy hz ht
  simp only [execOp, ho, List.map_toArray, List.map_cons, List.map_nil, hx, hy, hz, ht, PV, Pc, el0, el1, el2, el3, el4]
  go_simp⟩
theorem yieldsIf_pt0 {ops : Array Oper} {S : World → Prop} {o : Oper} {a : Act} (hgd : Region.wanted o (yielded ops a.tmps) = true) (ho : o.op = .build 38 #[]) :
    YieldsIf Tryd.prog ops S o (PV p40) a := Or.inl ⟨hgd, fun w _ => by
  simp only [execOp, ho, List.map_toArray, List.map_cons, List.map_nil, PV, Pc, el0, el1, el2, el3, el4, p40]
  go_simp⟩
theorem Blk.farCells {g k : Nat} {t : TypeId} {cs : Array Value} (hk : g ≠ k) : ∀ (vs : List Value) (o : Nat) {w : World}, Blk w g t cs → Blk (w.setCells k o vs) g t cs
  | [], _, _, h => h
  | _ :: vs, o, _, h => Blk.farCells hk vs (o + 1) (h.far (p := ⟨k, o, none⟩) hk _)
theorem below_setCells {n g : Nat} (hg : n ≤ g) {w : World} : ∀ (vs : List Value) (o : Nat) {w' : World}, Below n w w' → Below n w (w'.setCells g o vs)
  | [], _, _, h => h
  | _ :: vs, o, _, h => below_setCells hg vs (o + 1) (h.setCell (p := ⟨g, o, none⟩) hg _)
theorem Blk.pfive0 {w : World} {g : Nat} {t : TypeId} {a0 a1 a2 a3 a4 a5 a6 a7 a8 a9 a10 a11 a12 a13 a14 a15 a16 a17 a18 a19 : Value} (h : Blk w g t #[a0, a1, a2, a3, a4, a5, a6, a7, a8, a9, a10, a11, a12, a13, a14, a15, a16, a17, a18, a19]) (v0 v1 v2 v3 v4 : Value) :
    Blk (w.setCells g 0 [v0, v1, v2, v3, v4]) g t #[v0, v1, v2, v3, v4, a5, a6, a7, a8, a9, a10, a11, a12, a13, a14, a15, a16, a17, a18, a19] := ((((h.set 0 v0).set 1 v1).set 2 v2).set 3 v3).set 4 v4
theorem Blk.pput0 {w : World} {g : Nat} {t : TypeId} {p : P4} (h : Blk w g t (Pc p)) (X : Nat) : Blk (w.setCells g 0 (El_cells X).toList) g t (Pc ⟨X, p.y, p.z, p.t⟩) := Blk.pfive0 h (el0 X) (el1 X) (el2 X) (el3 X) (el4 X)
theorem Blk.pfive5 {w : World} {g : Nat} {t : TypeId} {a0 a1 a2 a3 a4 a5 a6 a7 a8 a9 a10 a11 a12 a13 a14 a15 a16 a17 a18 a19 : Value} (h : Blk w g t #[a0, a1, a2, a3, a4, a5, a6, a7, a8, a9, a10, a11, a12, a13, a14, a15, a16, a17, a18, a19]) (v0 v1 v2 v3 v4 : Value) :
    Blk (w.setCells g 5 [v0, v1, v2, v3, v4]) g t #[a0, a1, a2, a3, a4, v0, v1, v2, v3, v4, a10, a11, a12, a13, a14, a15, a16, a17, a18, a19] := ((((h.set 5 v0).set 6 v1).set 7 v2).set 8 v3).set 9 v4
theorem Blk.pput5 {w : World} {g : Nat} {t : TypeId} {p : P4} (h : Blk w g t (Pc p)) (X : Nat) : Blk (w.setCells g 5 (El_cells X).toList) g t (Pc ⟨p.x, X, p.z, p.t⟩) := Blk.pfive5 h (el0 X) (el1 X) (el2 X) (el3 X) (el4 X)
theorem Blk.pfive10 {w : World} {g : Nat} {t : TypeId} {a0 a1 a2 a3 a4 a5 a6 a7 a8 a9 a10 a11 a12 a13 a14 a15 a16 a17 a18 a19 : Value} (h : Blk w g t #[a0, a1, a2, a3, a4, a5, a6, a7, a8, a9, a10, a11, a12, a13, a14, a15, a16, a17, a18, a19]) (v0 v1 v2 v3 v4 : Value) :
    Blk (w.setCells g 10 [v0, v1, v2, v3, v4]) g t #[a0, a1, a2, a3, a4, a5, a6, a7, a8, a9, v0, v1, v2, v3, v4, a15, a16, a17, a18, a19] := ((((h.set 10 v0).set 11 v1).set 12 v2).set 13 v3).set 14 v4
theorem Blk.pput10 {w : World} {g : Nat} {t : TypeId} {p : P4} (h : Blk w g t (Pc p)) (X : Nat) : Blk (w.setCells g 10 (El_cells X).toList) g t (Pc ⟨p.x, p.y, X, p.t⟩) := Blk.pfive10 h (el0 X) (el1 X) (el2 X) (el3 X) (el4 X)
theorem Blk.pfive15 {w : World} {g : Nat} {t : TypeId} {a0 a1 a2 a3 a4 a5 a6 a7 a8 a9 a10 a11 a12 a13 a14 a15 a16 a17 a18 a19 : Value} (h : Blk w g t #[a0, a1, a2, a3, a4, a5, a6, a7, a8, a9, a10, a11, a12, a13, a14, a15, a16, a17, a18, a19]) (v0 v1 v2 v3 v4 : Value) :
    Blk (w.setCells g 15 [v0, v1, v2, v3, v4]) g t #[a0, a1, a2, a3, a4, a5, a6, a7, a8, a9, a10, a11, a12, a13, a14, v0, v1, v2, v3, v4] := ((((h.set 15 v0).set 16 v1).set 17 v2).set 18 v3).set 19 v4
theorem Blk.pput15 {w : World} {g : Nat} {t : TypeId} {p : P4} (h : Blk w g t (Pc p)) (X : Nat) : Blk (w.setCells g 15 (El_cells X).toList) g t (Pc ⟨p.x, p.y, p.z, X⟩) := Blk.pfive15 h (el0 X) (el1 X) (el2 X) (el3 X) (el4 X)
theorem Blk.pthere {w : World} {g : Nat} {t : TypeId} {p : P4} (h : Blk w g t (Pc p)) (o : Nat) (ho : o + 5 ≤ 20) (N : Nat) : w.there g o (El_cells N).size := fun j hj => by
  refine ⟨?_, h.frozen _⟩
  rw [h.cell]
  have hj5 : j < 5 := hj
  have : o + j < (Pc p).size := by rw [Pc_size]; omega
  rw [Array.getElem?_eq_getElem this]
  rfl
theorem wpSeq_store_mid {P : Program} {ops : Array Oper} {Q : Exit → Act → World → Prop} {o : Oper} {rest : List Oper} {a : Act} {w : World} (hgd : o.guard = none)
    (ty : TypeId) (x y : Operand) (ho : o.op = .store ty x y) (g k : Nat) (cells : Array Value) (hx : a.eval x = .pointer (some ⟨g, k, none⟩)) (hy : a.eval y = .agg cells)
    (ht : w.there g k cells.size) (hi : (P.info? ty).map (·.size) = some cells.size) (h1 : cells.all (·.oneCell') = true)
    (h : wpSeq P ops Q rest (a.put o.dst undef) (w.setCells g k cells.toList)) : wpSeq P ops Q (o :: rest) a w :=
  wpSeq_wp (by simp [Region.wanted, hgd]) (wp_store_mid ty x y ho g k cells hx hy ht hi h1 h)
/-- The last store of a drawn region: nothing is asked behind it. -/
theorem wpAnyZ_store_end {P : Program} {md : Region.Mode} {ops : Array Oper} {Q : Exit → Act → World → Prop} {S : World → Prop} {z fuel : Nat} {listed : Array Bool} {a : Act} {w : World} (i : Nat) {oi : Oper} (hi : ops.toList[i]? = some oi) (hr : Region.ready md ops listed = [i]) (hgd : oi.guard = none)
    (ty : TypeId) (x y : Operand) (ho : oi.op = .store ty x y) (g : Nat) (cells : Array Value) (hx : a.eval x = .pointer (some ⟨g, 0, none⟩)) (hy : a.eval y = .agg cells)
    (t : TypeId) (old : Array Value) (hg : Blk w g t old) (hinf : (P.info? ty).map (·.size) = some cells.size) (hold : old.size = cells.size) (h1 : cells.all (·.oneCell') = true) (hz : (listed.setIfInBounds i true).getD z true = true)
    (h : wpAnyZ P md ops Q S z fuel (listed.setIfInBounds i true) (a.put oi.dst undef) (w.setRow g cells)) : wpAnyZ P md ops Q S z (fuel + 1) listed a w := by
  refine wpAnyZ_one hr ?_
  unfold wpOp
  rw [← Array.getElem?_toList, hi]
  have hw : Region.wanted oi (yielded ops a.tmps) = true := by simp [Region.wanted, hgd]
  simp only [hw, if_true]
  left
  exact wp_store_row ty x y ho g cells hx hy t old hg hinf hold h1 ⟨fun h0 => (by rw [hz] at h0; cases h0), h⟩
end Go.Proofs.YtjaomgildhiddaaDoor
/- Rows of points in one block (a list that is handed to Add); a key's highest bit. -/
namespace Go.Proofs.YtjaomgildhiddaaDoor
open Go.RowKit

theorem El_same (a b : Nat) : (El_cells a).size = (El_cells b).size := rfl
theorem Pc_same (a b : P4) : (Pc a).size = (Pc b).size := rfl
/-- The cells of a row of points. -/
def Pl (ps : List P4) : Array Value := ((ps.map PV).flatMap fun v => v.cells.toList).toArray
theorem PV_cells (p : P4) : (PV p).cells = Pc p := rfl
theorem Pl_get (ps : List P4) (k : Nat) : (Pl ps)[k]? = ((ps.map PV)[k / 20]?).bind (fun v => v.cells[k % 20]?) := by
  unfold Pl
  rw [List.getElem?_toArray]
  exact Go.Great.flat_get (by decide) _ (fun v hv => by obtain ⟨p, _, rfl⟩ := List.mem_map.1 hv; rfl) k
theorem rangePl {w : World} {g : Nat} {t : TypeId} {ps : List P4} (h : Blk w g t (Pl ps)) (i : Nat) (p : P4) (hp : ps[i]? = some p) : w.rangeAt g (i * 20) (Pc p).toList := fun j v hv => by
  have hj : j < 20 := by
    have := (List.getElem?_eq_some_iff.1 hv).1
    rw [Array.length_toList, Pc_size] at this
    exact this
  rw [h.cell, Pl_get, show (i * 20 + j) / 20 = i by omega, show (i * 20 + j) % 20 = j by omega, List.getElem?_map, hp]
  show (Pc p)[j]? = some v
  rw [← hv, Array.getElem?_toList]
theorem info_Pt : (Tryd.prog.info? 38).map (·.size) = some 20 := by kernel_rfl
theorem zero_Pt : ((Tryd.prog.info? 38).bind (·.zero)).isSome = true := by kernel_rfl
theorem under_Pts : Tryd.prog.underlying 73 = some (.slice 38) := by kernel_rfl
theorem run_points (n : Nat) (parts : Array (Nat × Value)) (ps : List P4) (hp : parts.toList = ((ps.map PV).zipIdx 0).map fun x => (x.2, x.1)) (hn : ps.length = n) (hpos : 0 < n) (hs : n ≤ 1000) (w : World) :
    (Instr.buildSlice 73 n parts).run Tryd.prog w = .ok (.slice (some ⟨w.heap.size, 0, none⟩) n n) (w.alloc (.cells (Pl ps) 38)) := by
  have h1 := info_Pt
  have h2 := zero_Pt
  cases hie : Tryd.prog.info? 38 with
  | none => rw [hie] at h1; cases h1
  | some ie =>
    simp only [hie, Option.map_some, Option.some.injEq, Option.bind_some] at h1 h2
    obtain ⟨z, hz⟩ := Option.isSome_iff_exists.1 h2
    refine run_buildSlice w _ _ n parts _ ie z under_Pts hie hz (by rw [h1]; omega) (by rw [h1]; omega) ?_
    rw [hp, h1]
    exact Go.Great.fill_whole (by decide) _ _ (fun v hv => by obtain ⟨p, _, rfl⟩ := List.mem_map.1 hv; rfl) (by simp [hn])
theorem wp_points {o : Oper} {a : Act} {w : World} {K : Act → World → Prop} {Q : Exit → Act → World → Prop} (n : Nat) (parts : Array (Nat × Operand)) (ho : o.op = .buildSlice 73 n parts)
    (ps : List P4) (hp : (parts.map fun (i, x) => (i, a.eval x)).toList = ((ps.map PV).zipIdx 0).map fun x => (x.2, x.1)) (hn : ps.length = n) (hpos : 0 < n) (hs : n ≤ 1000)
    (h : K (a.put o.dst (.slice (some ⟨w.heap.size, 0, none⟩) n n)) (w.alloc (.cells (Pl ps) 38))) : o.wp Tryd.prog a w K Q := by
  unfold Oper.wp execOp
  simp only [ho, Sem.run_bind, run_points n _ ps hp hn hpos hs w, Result.andThen_ok]
  exact h
theorem wpAnyZ_points {md : Region.Mode} {ops : Array Oper} {Q : Exit → Act → World → Prop} {S : World → Prop} {z fuel : Nat} {listed : Array Bool} {a : Act} {w : World} (i : Nat) {oi : Oper} (hi : ops.toList[i]? = some oi) (hr : Region.ready md ops listed = [i]) (hgd : Region.wanted oi (yielded ops a.tmps) = true)
    (n : Nat) (parts : Array (Nat × Operand)) (ho : oi.op = .buildSlice 73 n parts)
    (ps : List P4) (hp : (parts.map fun (i, x) => (i, a.eval x)).toList = ((ps.map PV).zipIdx 0).map fun x => (x.2, x.1)) (hn : ps.length = n) (hpos : 0 < n) (hs : n ≤ 1000)
    (hS : ∀ W, Below w.heap.size w W → S W)
    (h : ∀ g W, Blk W g 38 (Pl ps) → Below w.heap.size w W → w.heap.size ≤ g → wpAnyZ Tryd.prog md ops Q S z fuel (listed.setIfInBounds i true) (a.put oi.dst (.slice (some ⟨g, 0, none⟩) n n)) W) : wpAnyZ Tryd.prog md ops Q S z (fuel + 1) listed a w := by
  refine wpAnyZ_one hr ?_
  unfold wpOp
  rw [← Array.getElem?_toList, hi]
  simp only [hgd, if_true]
  left
  have b := (Below.refl w.heap.size w).alloc (Nat.le_refl _) (.cells (Pl ps) 38)
  exact wp_points n parts ho ps hp hn hpos hs ⟨fun _ => hS _ b, h _ _ (Blk.new _ _ _) b (Nat.le_refl _)⟩
theorem parts1 {a : Act} {x0 : Operand} {p0 : P4} (h0 : a.eval x0 = PV p0) : ((#[(0, x0)] : Array (Nat × Operand)).map fun (i, x) => (i, a.eval x)).toList = (([p0].map PV).zipIdx 0).map fun x => (x.2, x.1) := by
  simp [h0]
theorem parts2 {a : Act} {x0 x1 : Operand} {p0 p1 : P4} (h0 : a.eval x0 = PV p0) (h1 : a.eval x1 = PV p1) : ((#[(0, x0), (1, x1)] : Array (Nat × Operand)).map fun (i, x) => (i, a.eval x)).toList = (([p0, p1].map PV).zipIdx 0).map fun x => (x.2, x.1) := by
  simp [h0, h1]
theorem parts3 {a : Act} {x0 x1 x2 : Operand} {p0 p1 p2 : P4} (h0 : a.eval x0 = PV p0) (h1 : a.eval x1 = PV p1) (h2 : a.eval x2 = PV p2) : ((#[(0, x0), (1, x1), (2, x2)] : Array (Nat × Operand)).map fun (i, x) => (i, a.eval x)).toList = (([p0, p1, p2].map PV).zipIdx 0).map fun x => (x.2, x.1) := by
  simp [h0, h1, h2]
theorem wpOp_points {ops : Array Oper} {Q : Exit → Act → World → Prop} {K : Act → World → Prop} {a : Act} {w : World} (i : Nat) {oi : Oper} (hi : ops.toList[i]? = some oi) (hgd : Region.wanted oi (yielded ops a.tmps) = true)
    (n : Nat) (parts : Array (Nat × Operand)) (ho : oi.op = .buildSlice 73 n parts)
    (ps : List P4) (hp : (parts.map fun (i, x) => (i, a.eval x)).toList = ((ps.map PV).zipIdx 0).map fun x => (x.2, x.1)) (hn : ps.length = n) (hpos : 0 < n) (hs : n ≤ 1000)
    (h : ∀ g W, Blk W g 38 (Pl ps) → Below w.heap.size w W → K (a.put oi.dst (.slice (some ⟨g, 0, none⟩) n n)) W) : wpOp Tryd.prog ops Q i K a w := by
  unfold wpOp
  rw [← Array.getElem?_toList, hi]
  simp only [hgd, if_true]
  left
  exact wp_points n parts ho ps hp hn hpos hs (h _ _ (Blk.new _ _ _) ((Below.refl w.heap.size w).alloc (Nat.le_refl _) _))
/-- A block allocated, in the text's order: its number, and the world behind it. -/
theorem wpSeq_allocQ {P : Program} {ops : Array Oper} {Q : Exit → Act → World → Prop} {o : Oper} {rest : List Oper} {a : Act} {w : World} (t : TypeId) (cs : Array Value) (hw : Region.wanted o (yielded ops a.tmps) = true)
    (hrun : ∀ W, (execOp a.eval o).run P W = .ok (.value (.pointer (some ⟨W.heap.size, 0, none⟩))) (W.alloc (.cells cs t)))
    (h : ∀ g W, Blk W g t cs → Below w.heap.size w W → w.heap.size ≤ g → wpSeq P ops Q rest (a.put o.dst (.pointer (some ⟨g, 0, none⟩))) W) : wpSeq P ops Q (o :: rest) a w :=
  wpSeq_alloc t cs hw hrun (h _ _ (Blk.new _ _ _) ((Below.refl w.heap.size w).alloc (Nat.le_refl _) _) (Nat.le_refl _))
theorem Facts.nilB {n : Nat} {w w' : World} (_ : Below n w w') : Facts [] w' := Facts.nil
theorem Rng.rowFar {w : World} {g : Nat} {cs : Array Value} (h : Rng w g cs) {k : Nat} (hk : g ≠ k) (ds : Array Value) : Rng (w.setRow k ds) g cs :=
  ⟨by rw [setRow_size]; exact h.blk, fun j v hv => by
    rw [← h.there j v hv]
    simp only [World.cell?]
    rw [setRow_other w k g ds hk]⟩
theorem Rng.far {w : World} {g : Nat} {cs : Array Value} (h : Rng w g cs) {p : Addr} (hk : g ≠ p.block) (v : Value) : Rng (w.setCell p v) g cs :=
  ⟨by simpa [World.setCell] using h.blk, fun j x hx => by
    rw [← h.there j x hx]
    simp only [World.cell?]
    rw [heap_setCell_other w p g v hk]⟩
theorem Rng.farCells {g k : Nat} {cs : Array Value} (hk : g ≠ k) : ∀ (vs : List Value) (o : Nat) {w : World}, Rng w g cs → Rng (w.setCells k o vs) g cs
  | [], _, _, h => h
  | _ :: vs, o, _, h => Rng.farCells hk vs (o + 1) (h.far (p := ⟨k, o, none⟩) hk _)
theorem info_keyL (n : Nat) : (Tryd.prog.info? 23).map (·.size) = some (Iv .u8 (keyOf n)).toList.length := by
  rw [Array.length_toList]
  exact info_key _ (keyOf_length n)
/-- A key as a number modulo the prime. -/
def plN (n : Nat) : Nat := n % 57896044618658097711785492504343953926634992332820282019728792003956564819968 % pp
theorem plN_lt (n : Nat) : plN n < pp := Nat.mod_lt _ pp_pos
theorem plN_small {n : Nat} (h : n < pp) : plN n = n := by
  have := pp_255
  unfold plN
  rw [Nat.mod_eq_of_lt (show n < 57896044618658097711785492504343953926634992332820282019728792003956564819968 by omega), Nat.mod_eq_of_lt h]
theorem of_n (N X : Nat) (h : N < p256) (hX : X = plN N) (w : World) : Calls Tryd.prog 31 #[Key (keyOf N)] w fun e w' => e = .returned (El X) ∧ Below w.heap.size w w' :=
  of_v _ _ (keyOf_bytes N) X (by rw [leTo_byteAt32 h, hX]; rfl) w

/-- The sum of all. -/
def psum (ps : List P4) : P4 := ps.foldl padd pzero
theorem psum_next (ps : List P4) (k : Nat) (p : P4) (h : ps[k]? = some p) : psum (ps.take (k + 1)) = padd (psum (ps.take k)) p := by
  have hk : k < ps.length := (List.getElem?_eq_some_iff.1 h).1
  have e : ps.take (k + 1) = ps.take k ++ [p] := by
    rw [List.take_add_one, h]
    rfl
  unfold psum
  rw [e, List.foldl_append]
  rfl
theorem psum_ok (ps : List P4) (h : ∀ p ∈ ps, p.Ok) : (psum ps).Ok := by
  have key : ∀ (ps : List P4) (s : P4), s.Ok → (ps.foldl padd s).Ok := by
    intro ps
    induction ps with
    | nil => intro s hs; exact hs
    | cons p ps ih => intro s hs; exact ih _ (padd_ok _ _)
  exact key ps pzero pzero_is.ok

/-! A key's highest bit. -/
theorem byteAt_low (Y i : Nat) (hi : i < 31) : byteAt (Y % 57896044618658097711785492504343953926634992332820282019728792003956564819968) i = byteAt Y i := by
  have e : (57896044618658097711785492504343953926634992332820282019728792003956564819968 : Nat) = 256 ^ i * (256 * 2 ^ (247 - 8 * i)) := by
    rw [show (256 : Nat) = 2 ^ 8 by decide, ← Nat.pow_mul, ← Nat.pow_add, ← Nat.pow_add, show 8 * i + (8 + (247 - 8 * i)) = 255 by omega]
  unfold byteAt
  rw [e, Nat.mod_mul_right_div_self, Nat.mod_mul_right_mod]
theorem byteAt_31 (Y : Nat) : byteAt (Y % 57896044618658097711785492504343953926634992332820282019728792003956564819968) 31 = byteAt Y 31 % 128 := by
  unfold byteAt
  simp only [Nat.reducePow]
  omega
theorem byteAt_top (Y : Nat) (h : Y < p256) : byteAt Y 31 / 128 = Y / 57896044618658097711785492504343953926634992332820282019728792003956564819968 := by
  unfold p256 at h
  unfold byteAt
  simp only [Nat.reducePow]
  omega
theorem keyOf_ext {A B : Nat} (h : ∀ i, i < 32 → byteAt A i = byteAt B i) : keyOf A = keyOf B := by
  unfold keyOf
  exact List.map_congr_left fun i hi => by rw [h i (List.mem_range.1 hi)]
theorem keyOf_set (A B v : Nat) (h : ∀ i, i < 31 → byteAt A i = byteAt B i) (hv : byteAt B 31 = v) : (keyOf A).set 31 ((v : Nat) : Int) = keyOf B := by
  apply List.ext_getElem (by rw [List.length_set, keyOf_length, keyOf_length])
  intro i h1 h2
  have hi : i < 32 := by rw [keyOf_length] at h2; exact h2
  rw [List.getElem_set]
  split
  · next e =>
    subst e
    simp [keyOf, hv]
  · next e => simp [keyOf, h i (by omega)]
/-- The bit taken out. -/
theorem key_cut (N : Nat) : (keyOf N).set 31 ((byteAt N 31 % 128 : Nat) : Int) = keyOf (N % 57896044618658097711785492504343953926634992332820282019728792003956564819968) :=
  keyOf_set _ _ _ (fun i hi => (byteAt_low N i hi).symm) (byteAt_31 N)
/-- The bit laid. -/
theorem key_lay (Y b : Nat) (hY : Y < 57896044618658097711785492504343953926634992332820282019728792003956564819968) (hb : b < 2) : (keyOf Y).set 31 ((byteAt Y 31 + b * 128 : Nat) : Int) = keyOf (Y + b * 57896044618658097711785492504343953926634992332820282019728792003956564819968) := by
  have e : (Y + b * 57896044618658097711785492504343953926634992332820282019728792003956564819968) % 57896044618658097711785492504343953926634992332820282019728792003956564819968 = Y := by omega
  refine keyOf_set _ _ _ (fun i hi => ?_) ?_
  · have h1 := byteAt_low (Y + b * 57896044618658097711785492504343953926634992332820282019728792003956564819968) i hi
    rw [e] at h1
    exact h1
  · unfold byteAt
    simp only [Nat.reducePow]
    omega
theorem byteAt_small (Y : Nat) (hY : Y < 57896044618658097711785492504343953926634992332820282019728792003956564819968) : byteAt Y 31 < 128 := by
  unfold byteAt
  simp only [Nat.reducePow]
  omega
end Go.Proofs.YtjaomgildhiddaaDoor
/- A byte of a key in memory. -/
namespace Go.Proofs.YtjaomgildhiddaaDoor
open Go.RowKit

theorem key_cellj {w : World} {g : Nat} {t : TypeId} {N : Nat} (h : Blk w g t (Iv .u8 (keyOf N))) (i : Nat) (hi : i < 32) : w.cell? ⟨g, i, none⟩ = some (.int .u8 ((byteAt N i : Nat) : Int)) := by
  have hl := keyOf_bytes N
  rw [h.cell, Iv_get _ _ _ (by rw [hl.len]; exact hi), hl.get i hi]
theorem yieldsIf_neq8 {ops : Array Oper} {S : World → Prop} {o : Oper} {a : Act} (hgd : Region.wanted o (yielded ops a.tmps) = true) (x y : Operand) (ho : o.op = .binOp .neq 5 x y 5) (n m : Nat) (hx : a.eval x = .int .u8 (n : Int)) (hy : a.eval y = .int .u8 (m : Int)) (c : Bool) (hc : (!decide (n = m)) = c) :
    YieldsIf Tryd.prog ops S o (.bool c) a := Or.inl ⟨hgd, fun w _ => by
  subst hc
  by_cases h : n = m
  · subst h
    simp only [execOp, ho, hx, hy]
    go_simp
  · have h2 : ¬ ((n : Int) = (m : Int)) := by omega
    simp only [execOp, ho, hx, hy]
    go_simp⟩
theorem yieldsIf_neqb {ops : Array Oper} {S : World → Prop} {o : Oper} {a : Act} (hgd : Region.wanted o (yielded ops a.tmps) = true) (x y : Operand) (ho : o.op = .binOp .neq 4 x y 4) (n m : Bool) (hx : a.eval x = .bool n) (hy : a.eval y = .bool m) (c : Bool) (hc : (n != m) = c) :
    YieldsIf Tryd.prog ops S o (.bool c) a := Or.inl ⟨hgd, fun w _ => by
  subst hc
  simp only [execOp, ho, hx, hy]
  cases n <;> cases m <;> go_simp⟩
theorem yieldsIf_eqlb {ops : Array Oper} {S : World → Prop} {o : Oper} {a : Act} (hgd : Region.wanted o (yielded ops a.tmps) = true) (x y : Operand) (ho : o.op = .binOp .eql 4 x y 4) (n m : Bool) (hx : a.eval x = .bool n) (hy : a.eval y = .bool m) (c : Bool) (hc : (n == m) = c) :
    YieldsIf Tryd.prog ops S o (.bool c) a := Or.inl ⟨hgd, fun w _ => by
  subst hc
  simp only [execOp, ho, hx, hy]
  cases n <;> cases m <;> go_simp⟩
end Go.Proofs.YtjaomgildhiddaaDoor
