/- Jobs of a drawn region of which some give what is known by a word alone, and others look at those: one way through them all. -/
import Derived.Test.YtnahjmladhbmpaaLo
namespace Go.Proofs.Ytnahjmladhbmpaa
open Go.RowKit
section
variable {P : Program} {md : Region.Mode} {ops : Array Oper} {Q : Exit → Act → World → Prop}

/-- A job's word, where what it looks at meets its own. -/
def JobR (P : Program) (ops : Array Oper) (Q : Exit → Act → World → Prop) (S : World → Prop) (pre : List Job) (R : Nat → Value → World → Prop) (a : Act) (j : Job) : Prop :=
  ∀ (f : Nat → Value) (w : World) (K : Act → World → Prop), S w → (∀ k ∈ pre, R k.i (f k.i) w) →
    (∀ v w', R j.i v w' → Below w.heap.size w w' → K ((putAll f pre a).put (some j.d) v) w') → wpOp P ops Q j.i K (putAll f pre a) w
theorem jobs_frameR (J : List Job) (l : Array Bool)
    (hjs : ∀ (x : Job), x ∈ J → (l.getD x.i true = false ∧ x.i < l.size) ∧ ∀ (y : Job), y ∈ J → (y.i = x.i ∨ (y.d == x.d) = false) ∧
      (match ops[x.i]? with | some o => !(o.looksAt ops).contains y.d || (true && y.i != x.i && o.after.any fun e => Region.binds md e && e.on == y.i) | none => false) = true)
    (hdd : ∀ x ∈ J, ∀ y ∈ J, x = y ∨ x.d ≠ y.d)
    {rem done : List Job} {f : Nat → Value} (hp : (rem ++ done).Perm J) (hdJ : ∀ j ∈ done, j ∈ J) (hrJ : ∀ j ∈ rem, j ∈ J) (hsep : ∀ j ∈ rem, ∀ k ∈ done, k.i ≠ j.i)
    (hun : ∀ j ∈ rem, (setAll done l).getD j.i true = false) (j : Job) (hj : j ∈ rem) (o : Oper) (ho : ops[j.i]? = some o)
    (hall : ∀ e ∈ o.after, Region.binds md e = true → (setAll done l).getD e.on false = true) :
    (∀ b : Act, putAll f done b = putAll f (done.filter (fun k => !(o.looksAt ops).contains k.d)) (putAll f (predsOf ops J j) b)) ∧ ∀ k ∈ predsOf ops J j, k ∈ done := by
  have hjJ := hrJ j hj
  -- what the job looks at has come up
  have hlook : ∀ k ∈ J, k.d ∈ o.looksAt ops → k ∈ done := fun k hk h => by
    have h1 := ((hjs j hjJ).2 k hk).2
    rw [ho] at h1
    have h0 : (o.looksAt ops).contains k.d = true := by simpa using h
    simp only [h0, Bool.not_true, Bool.false_or, Bool.and_eq_true] at h1
    obtain ⟨⟨_, hkj⟩, hed⟩ := h1
    obtain ⟨e, he, hb2⟩ := Array.any_eq_true'.1 hed
    simp only [Bool.and_eq_true, beq_iff_eq] at hb2
    have h2 := hall e he hb2.1
    rw [hb2.2] at h2
    rcases List.mem_append.1 (hp.mem_iff.2 hk) with h3 | h3
    · exfalso
      have hlt : k.i < (setAll done l).size := by rw [setAll_size]; exact (hjs k hk).1.2
      rw [← getD_true_false hlt, hun k h3] at h2
      cases h2
    · exact h3
  have hpr : predsOf ops J j = J.filter fun k => (o.looksAt ops).contains k.d := by unfold predsOf; rw [ho]
  -- the frame: what is looked at lies under the rest
  have hsplit : (done.filter (fun k => !(o.looksAt ops).contains k.d) ++ done.filter (fun k => (o.looksAt ops).contains k.d)).Perm done :=
    (List.perm_append_comm).trans (List.filter_append_perm (fun k => (o.looksAt ops).contains k.d) done)
  have hpp : (done.filter fun k => (o.looksAt ops).contains k.d).Perm (predsOf ops J j) := by
    rw [hpr]
    have h1 : ((rem ++ done).filter fun k => (o.looksAt ops).contains k.d).Perm (J.filter fun k => (o.looksAt ops).contains k.d) := hp.filter _
    rw [List.filter_append] at h1
    have h2 : (rem.filter fun k => (o.looksAt ops).contains k.d) = [] := by
      rw [List.filter_eq_nil_iff]
      intro k hk h3
      have h4 := hlook k (hrJ k hk) (by simpa using h3)
      exact hsep k hk k h4 rfl
    rw [h2, List.nil_append] at h1
    exact h1
  refine ⟨fun b => ?_, fun k hk => ?_⟩
  · rw [← putAll_perm (a := b) (f := f) hsplit (fun x hx y hy => hdd x (hdJ x (hsplit.mem_iff.1 hx)) y (hdJ y (hsplit.mem_iff.1 hy))), putAll_append]
    congr 1
    exact putAll_perm hpp (fun x hx y hy => hdd x (hdJ x (List.mem_filter.1 hx).1) y (hdJ y (List.mem_filter.1 hy).1))
  · exact (List.mem_filter.1 (hpp.mem_iff.2 hk)).1
theorem wpAnyZ_jobsR {S : World → Prop} {z : Nat} (J : List Job) (R : Nat → Value → World → Prop) (fuel : Nat) (l : Array Bool) (a : Act) (w0 : World) (hok : jobsOkD md ops l J (fun _ => true) (fun _ => false) z = true)
    (hQ : ∀ c a d v w, Q (.panic c) a w → Q (.panic c) (a.put (some d) v) w)
    (hS : ∀ w w', S w → Below w.heap.size w w' → S w') (hR : ∀ j ∈ J, ∀ v w w', R j.i v w → Below w.heap.size w w' → R j.i v w')
    (hjob : ∀ j ∈ J, JobR P ops Q S (predsOf ops J j) R a j) (hS0 : S w0)
    (hend : ∀ (f : Nat → Value) (w : World), S w → Below w0.heap.size w0 w → (∀ j ∈ J, R j.i (f j.i) w) → wpAnyZ P md ops Q S z fuel (setAll J l) (putAll f J a) w) :
    wpAnyZ P md ops Q S z (J.length + fuel) l a w0 := by
  unfold jobsOkD at hok
  simp only [Bool.and_eq_true] at hok
  obtain ⟨⟨⟨⟨⟨⟨hns, htopo⟩, hjs⟩, hrest⟩, hnd⟩, hlt⟩, hzJ⟩ := hok
  have hnd' : (J.map (·.i)).Nodup := of_decide_eq_true hnd
  simp only [List.all_eq_true, Bool.and_eq_true, Bool.not_eq_true', decide_eq_true_eq, Bool.or_eq_true, beq_iff_eq, List.mem_range, bne_iff_ne] at hjs hrest hlt hzJ
  have hinj : ∀ j ∈ J, ∀ k ∈ J, j.i = k.i → j = k := fun j hj k hk h => by
    have h1 := List.pairwise_map.1 hnd'
    rcases Decidable.em (j = k) with h2 | h2
    · exact h2
    · exact absurd h (pair_ne J h1 j hj k hk h2)
  have hdd : ∀ x ∈ J, ∀ y ∈ J, x = y ∨ x.d ≠ y.d := fun x hx y hy => by
    by_cases h : x.i = y.i
    · exact Or.inl (hinj x hx y hy h)
    · right
      rcases ((hjs x hx).2 y hy).1 with h2 | h2
      · exact absurd h2.symm h
      · exact fun h3 => by simp [h3] at h2
  suffices H : ∀ (n : Nat) (rem done : List Job) (f : Nat → Value) (w : World), rem.length = n → (rem ++ done).Perm J → S w → Below w0.heap.size w0 w → (∀ j ∈ done, R j.i (f j.i) w) →
      (∀ q ∈ done, ∀ o, ops[q.i]? = some o → ∀ e ∈ o.after, Region.binds md e = true → (setAll done l).getD e.on false = true) → wpAnyZ P md ops Q S z (n + fuel) (setAll done l) (putAll f done a) w by
    exact H J.length J [] (fun _ => undef) w0 rfl (by simp) hS0 (Below.refl _ _) (by simp) (by simp)
  intro n
  induction n with
  | zero =>
    intro rem done f w hn hp hSw hb hRd hcl
    have hr : rem = [] := List.length_eq_zero_iff.1 hn
    subst hr
    simp only [List.nil_append] at hp
    have e1 : setAll done l = setAll J l := hp.foldr_eq' (fun x _ y _ z => Classical.byCases (fun h : x.i = y.i => by rw [h]) (fun h => by rw [Array.setIfInBounds_comm _ _ h])) _
    have e2 : putAll f done a = putAll f J a := putAll_perm hp fun x hx y hy => hdd x (hp.mem_iff.1 hx) y (hp.mem_iff.1 hy)
    rw [e1, e2, Nat.zero_add]
    exact hend f w hSw hb (fun j hj => hRd j (hp.mem_iff.2 hj))
  | succ n ih =>
    intro rem done f w hn hp hSw hb hRd hcl
    have hdJ : ∀ j ∈ done, j ∈ J := fun j hj => hp.mem_iff.1 (by simp [hj])
    have hrJ : ∀ j ∈ rem, j ∈ J := fun j hj => hp.mem_iff.1 (by simp [hj])
    have hndp : ((rem ++ done).map (·.i)).Nodup := (hp.map _).nodup_iff.2 hnd'
    have hndd : (done.map (·.i)).Nodup := by
      rw [List.map_append, List.nodup_append] at hndp
      exact hndp.2.1
    have hsep : ∀ j ∈ rem, ∀ k ∈ done, k.i ≠ j.i := by
      rw [List.map_append, List.nodup_append] at hndp
      intro j hj k hk h
      exact hndp.2.2 j.i (List.mem_map_of_mem hj) k.i (List.mem_map_of_mem hk) h.symm
    have hun : ∀ j ∈ rem, (setAll done l).getD j.i true = false := fun j hj => by
      rw [setAll_get l j.i true done (hsep j hj)]
      exact (hjs j (hrJ j hj)).1.1
    have hrne : ∃ j, j ∈ rem := by
      cases rem with
      | nil => simp at hn
      | cons j r => exact ⟨j, by simp⟩
    obtain ⟨j0, hj0⟩ := hrne
    rw [show n + 1 + fuel = (n + fuel) + 1 by omega]
    refine ⟨fun h => absurd h (topo_ready J l htopo _ (fun i hi => setAll_mono l i hi done) (fun j hj => by rw [setAll_size]; exact (hjs j hj).1.2) ⟨j0, hrJ j0 hj0, hun j0 hj0⟩), fun i hi => ?_⟩
    obtain ⟨hiun, o, ho, hall⟩ := mem_ready.1 hi
    obtain ⟨j, hj, rfl⟩ : ∃ j ∈ rem, j.i = i := by
      rcases hrest i (Array.getElem?_eq_some_iff.1 ho).1 with h | h
      · rcases h with h | h
        rotate_left
        · exfalso
          rw [ho] at h
          obtain ⟨e, he, hb2⟩ := Array.any_eq_true'.1 h
          simp only [Bool.and_eq_true, Bool.not_eq_true', List.any_eq_false, beq_iff_eq] at hb2
          have h2 := hall e he hb2.1.1
          rw [setAll_get l e.on false done (fun k hk => hb2.2 k (hdJ k hk))] at h2
          have h3 := hb2.1.2
          have h4 : e.on < l.size := by
            rcases Nat.lt_or_ge e.on l.size with h' | h'
            · exact h'
            · simp [Array.getElem?_eq_none h'] at h3
          rw [getD_true_false h4, h2] at h3
          cases h3
        rcases h with h | h
        · exfalso
          by_cases hd : ∃ k ∈ done, k.i = i
          · obtain ⟨k, hk, rfl⟩ := hd
            rw [setAll_mem l true done (fun j hj => (hjs j (hdJ j hj)).1.2) k hk] at hiun
            cases hiun
          · rw [setAll_get l i true done (fun k hk h => hd ⟨k, hk, h⟩)] at hiun
            rw [hiun] at h
            cases h
        · obtain ⟨k, hk, hki⟩ := List.any_eq_true.1 h
          have hki' : k.i = i := by simpa using hki
          rcases List.mem_append.1 (hp.mem_iff.2 hk) with h1 | h1
          · exact ⟨k, h1, hki'⟩
          · exfalso
            rw [← hki', setAll_mem l true done (fun j hj => (hjs j (hdJ j hj)).1.2) k h1] at hiun
            cases hiun
      · exfalso
        have h1 := (h j0 (hrJ j0 hj0)).resolve_left (by decide)
        have h2 := reachJ_spec (L := setAll done l) (fun q hq hql => by
          rcases List.mem_append.1 (hp.mem_iff.2 hq) with h3 | h3
          · exfalso
            have h4 : q.i < (setAll done l).size := by rw [setAll_size]; exact (hjs q hq).1.2
            rw [← getD_true_false h4, hun q h3] at hql
            cases hql
          · exact h3) hcl (fun q hq => topo_some J l htopo q hq) _ i j0.i o ho hall h1
        have hlt : j0.i < (setAll done l).size := by rw [setAll_size]; exact (hjs j0 (hrJ j0 hj0)).1.2
        rw [← getD_true_false hlt, hun j0 hj0] at h2
        cases h2
    have hjJ := hrJ j hj
    have hdst : o.dst = some j.d := topo_dst J l htopo j hjJ o ho
    obtain ⟨hframe, hpre⟩ := jobs_frameR (f := f) J l hjs hdd hp hdJ hrJ hsep hun j hj o ho hall
    have hne : ∀ k ∈ done, k.d ≠ j.d := fun k hk => by
      rcases ((hjs j hjJ).2 k (hdJ k hk)).1 with h1 | h1
      · exact absurd h1 (hsep j hj k hk)
      · simpa using h1
    rw [hframe a]
    refine wpOp_putAll ho (fun cs b => Region.noSelect_spec hns j.i o cs b ho) hdst hQ f _ _ _ (fun k hk h => ?_) (fun k hk => hne k (List.mem_filter.1 hk).1) ?_
    · have := (List.mem_filter.1 hk).2
      simp [h] at this
    refine hjob j hjJ f w _ hSw (fun k hk => hRd k (hpre k hk)) fun v w' hv hbw => ?_
    have hf : ∀ k ∈ done, f k.i = updJ f j.i v k.i := fun k hk => (updJ_ne f j.i v k.i (hsep j hj k hk)).symm
    have hvj : updJ f j.i v j.i = v := updJ_self f j.i v
    rw [putAll_put f j.d v _ _ (fun k hk => hne k (List.mem_filter.1 hk).1), ← hframe a, putAll_same (g := updJ f j.i v) a done hf, show ((putAll (updJ f j.i v) done a).put (some j.d) v) = putAll (updJ f j.i v) (j :: done) a from by
      show _ = (putAll (updJ f j.i v) done a).put (some j.d) (updJ f j.i v j.i)
      rw [hvj]]
    have hb2 : Below w0.heap.size w0 w' := hb.trans (hbw.mono hb.size)
    refine ⟨fun _ => hS w w' hSw hbw, ih (rem.erase j) (j :: done) _ w' (by rw [List.length_erase_of_mem hj, hn]; rfl) ?_ (hS w w' hSw hbw) hb2 ?_ ?_⟩
    · refine List.Perm.trans ?_ hp
      have h1 : (rem.erase j ++ j :: done).Perm (j :: (rem.erase j ++ done)) := List.perm_middle
      exact h1.trans ((List.perm_cons_erase hj).symm.append_right done)
    · intro k hk
      rcases List.mem_cons.1 hk with rfl | hk
      · rw [hvj]; exact hv
      · rw [← hf k hk]; exact hR k (hdJ k hk) _ _ _ (hRd k hk) hbw
    · intro k hk oq hoq e he hbe
      show ((setAll done l).setIfInBounds j.i true).getD e.on false = true
      rcases List.mem_cons.1 hk with h1 | h1
      · subst h1
        obtain rfl : oq = o := Option.some.inj (hoq.symm.trans ho)
        exact getD_set_true (hall e he hbe)
      · exact getD_set_true (hcl k h1 oq hoq e he hbe)


theorem wpAnyZ_jobsRL {S : World → Prop} {z : Nat} (L : List (Job × Spec)) (fuel : Nat) (l : Array Bool) (a : Act) (w0 : World) (hok : jobsOkD md ops l (L.map (·.1)) (fun _ => true) (fun _ => false) z = true)
    (hQ : ∀ c a d v w, Q (.panic c) a w → Q (.panic c) (a.put (some d) v) w)
    (hS : ∀ w w', S w → Below w.heap.size w w' → S w') (hS0 : S w0)
    (hR : ∀ j ∈ L.map (·.1), ∀ v w w', (specOf L j.i).holds v w → Below w.heap.size w w' → (specOf L j.i).holds v w')
    (hjob : ∀ j ∈ L.map (·.1), JobR P ops Q S (predsOf ops (L.map (·.1)) j) (fun i => (specOf L i).holds) a j)
    (hend : ∀ (f : Nat → Value) (w : World), S w → Below w0.heap.size w0 w → (∀ j ∈ L.map (·.1), (specOf L j.i).holds (f j.i) w) → wpAnyZ P md ops Q S z fuel (setAll (L.map (·.1)) l) (putAll f (L.map (·.1)) a) w) :
    wpAnyZ P md ops Q S z ((L.map (·.1)).length + fuel) l a w0 :=
  wpAnyZ_jobsR (L.map (·.1)) (fun i => (specOf L i).holds) fuel l a w0 hok hQ hS hR hjob hS0 hend
theorem jobR_frame {S : World → Prop} {pre : List Job} (pre' : List Job) (hp : pre = pre') {R : Nat → Value → World → Prop} {a : Act} {j : Job} (h : JobR P ops Q S pre' R a j) : JobR P ops Q S pre R a j := hp ▸ h
end

end Go.Proofs.Ytnahjmladhbmpaa
