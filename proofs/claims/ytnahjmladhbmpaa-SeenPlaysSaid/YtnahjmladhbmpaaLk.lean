/- Jobs of a drawn region that may look at what earlier ones gave: one way through them all. -/
import Derived.Test.YtnahjmladhbmpaaLi
import Derived.StillTail
namespace Go.Proofs.Ytnahjmladhbmpaa
open Go.RowKit

/-- What a job gives: just a value, or one that meets a word. -/
inductive Spec where
  | is (v : Value)
  | rel (R : Value → World → Prop)
def Spec.holds : Spec → Value → World → Prop
  | .is u, v, _ => v = u
  | .rel R, v, w => R v w
def Spec.val : Spec → Value
  | .is u => u
  | .rel _ => undef
def Spec.fixed : Spec → Bool
  | .is _ => true
  | .rel _ => false
def valOf : List (Job × Spec) → Nat → Value
  | [], _ => undef
  | p :: L, i => if p.1.i = i then p.2.val else valOf L i

section
variable {P : Program} {md : Region.Mode} {ops : Array Oper} {Q : Exit → Act → World → Prop}

/-- The jobs whose slot a job looks at. -/
def predsOf (ops : Array Oper) (J : List Job) (j : Job) : List Job :=
  match ops[j.i]? with
  | some o => J.filter fun k => (o.looksAt ops).contains k.d
  | none => []
def edgeOn (md : Region.Mode) (ops : Array Oper) (k j : Nat) : Bool := match ops[k]? with | some o => o.after.any (fun e => Region.binds md e && e.on == j) | none => true
/-- Operation k waits for j, or for a job that does. -/
def reachJ (md : Region.Mode) (ops : Array Oper) (J : List Job) : Nat → Nat → Nat → Bool
  | 0, k, j => edgeOn md ops k j
  | n + 1, k, j => edgeOn md ops k j || J.any fun q => edgeOn md ops k q.i && reachJ md ops J n q.i j
theorem reachJ_spec {J done : List Job} {L : Array Bool} (hd : ∀ q ∈ J, L.getD q.i false = true → q ∈ done) (hcl : ∀ q ∈ done, ∀ o, ops[q.i]? = some o → ∀ e ∈ o.after, Region.binds md e = true → L.getD e.on false = true) (hops : ∀ q ∈ J, ∃ o, ops[q.i]? = some o) :
    ∀ (n k j : Nat) (o : Oper), ops[k]? = some o → (∀ e ∈ o.after, Region.binds md e = true → L.getD e.on false = true) → reachJ md ops J n k j = true → L.getD j false = true := by
  have hedge : ∀ (k j : Nat) (o : Oper), ops[k]? = some o → (∀ e ∈ o.after, Region.binds md e = true → L.getD e.on false = true) → edgeOn md ops k j = true → L.getD j false = true := by
    intro k j o ho hall h
    unfold edgeOn at h
    rw [ho] at h
    obtain ⟨e, he, hb⟩ := Array.any_eq_true'.1 h
    simp only [Bool.and_eq_true, beq_iff_eq] at hb
    rw [← hb.2]
    exact hall e he hb.1
  intro n
  induction n with
  | zero => intro k j o ho hall h; exact hedge k j o ho hall h
  | succ n ih =>
    intro k j o ho hall h
    unfold reachJ at h
    rw [Bool.or_eq_true] at h
    rcases h with h | h
    · exact hedge k j o ho hall h
    · obtain ⟨q, hq, h1⟩ := List.any_eq_true.1 h
      rw [Bool.and_eq_true] at h1
      have hql := hedge k q.i o ho hall h1.1
      obtain ⟨oq, hoq⟩ := hops q hq
      exact ih q.i j oq hoq (hcl q (hd q hq hql) oq hoq) h1.2
def jobsOkD (md : Region.Mode) (ops : Array Oper) (l : Array Bool) (J : List Job) (fixed late : Nat → Bool) (z : Nat) : Bool :=
  Region.noSelect ops && topo md ops l J &&
  (J.all fun j => !l.getD j.i true && decide (j.i < l.size) && J.all fun k => (k.i == j.i || !(k.d == j.d)) &&
    (match ops[j.i]? with | some o => !(o.looksAt ops).contains k.d || (fixed k.i && k.i != j.i && o.after.any fun e => Region.binds md e && e.on == k.i) | none => false)) &&
  ((List.range ops.size).all fun k => l.getD k true || J.any (fun j => j.i == k) || (match ops[k]? with | some o => o.after.any (fun e => Region.binds md e && !l.getD e.on true && !J.any (fun j => j.i == e.on)) | none => false) || J.all fun j => late j.i || reachJ md ops J J.length k j.i) &&
  decide ((J.map (·.i)).Nodup) &&
  (J.all fun j => !late j.i || (fixed j.i && Region.waitsFor md ops z j.i && j.i != z && !l.getD z true && Region.free md ops (setAll (J.filter fun k => !late k.i) l) j.i)) && J.all fun j => j.i != z

theorem topo_ready' : ∀ (J : List Job) (l0 : Array Bool), topo md ops l0 J = true → ∀ listed : Array Bool, (∀ i, l0.getD i false = true → listed.getD i false = true) → (∀ j ∈ J, j.i < listed.size) →
    (∃ j ∈ J, listed.getD j.i true = false) → ∃ j ∈ J, j.i ∈ Region.ready md ops listed
  | [], _, _, _, _, _, ⟨_, h, _⟩ => by cases h
  | j :: J, l0, ht, listed, hsub, hlt, hex => by
    unfold topo at ht
    rw [Bool.and_eq_true] at ht
    by_cases hj : listed.getD j.i true = false
    · refine ⟨j, by simp, ?_⟩
      rw [mem_ready]
      refine ⟨hj, ?_⟩
      cases ho : ops[j.i]? with
      | none => rw [ho] at ht; simp at ht
      | some o =>
        refine ⟨o, rfl, fun e he hb => hsub _ ?_⟩
        have h1 := ht.1
        rw [ho] at h1
        simp only [Bool.and_eq_true, Array.all_eq_true_iff_forall_mem] at h1
        have h2 := h1.2 e he
        simpa [hb] using h2
    · have hj' : listed.getD j.i false = true := by
        rw [← getD_true_false (hlt j (by simp))]
        simpa using hj
      obtain ⟨k, hk, h⟩ := topo_ready' J _ ht.2 listed (fun i hi => by
        by_cases hij : j.i = i
        · subst hij; exact hj'
        · rw [getD_set_ne false hij] at hi; exact hsub i hi) (fun k hk => hlt k (by simp [hk])) (by
        obtain ⟨k, hk, hk2⟩ := hex
        rcases List.mem_cons.1 hk with rfl | hk
        · exact absurd hk2 hj
        · exact ⟨k, hk, hk2⟩)
      exact ⟨k, by simp [hk], h⟩
theorem putAll_perm {f : Nat → Value} {a : Act} {J J' : List Job} (hp : J.Perm J') (hd : ∀ x ∈ J, ∀ y ∈ J, x = y ∨ x.d ≠ y.d) : putAll f J a = putAll f J' a :=
  hp.foldr_eq' (fun x hx y hy z => by
    rcases hd x hx y hy with h | h
    · rw [h]
    · exact Act.put_comm _ _ _ (fun q hq hq2 => by cases hq; exact h.symm (Option.some.inj hq2))) _
theorem putAll_append {f : Nat → Value} {a : Act} (J J' : List Job) : putAll f (J ++ J') a = putAll f J (putAll f J' a) := by
  unfold putAll
  rw [List.foldr_append]

theorem topo_dst : ∀ (J : List Job) (l : Array Bool), topo md ops l J = true → ∀ j ∈ J, ∀ o, ops[j.i]? = some o → o.dst = some j.d := by
  intro J
  induction J with
  | nil => intro _ _ j hj; cases hj
  | cons k J ih2 =>
    intro l ht j hj o ho
    unfold topo at ht
    rw [Bool.and_eq_true] at ht
    rcases List.mem_cons.1 hj with rfl | hj
    · have h1 := ht.1
      rw [ho] at h1
      simp only [Bool.and_eq_true, beq_iff_eq] at h1
      exact h1.1
    · exact ih2 _ ht.2 j hj o ho
theorem topo_some : ∀ (J : List Job) (l : Array Bool), topo md ops l J = true → ∀ j ∈ J, ∃ o, ops[j.i]? = some o := by
  intro J
  induction J with
  | nil => intro _ _ j hj; cases hj
  | cons k J ih2 =>
    intro l ht j hj
    unfold topo at ht
    rw [Bool.and_eq_true] at ht
    rcases List.mem_cons.1 hj with rfl | hj
    · cases ho : ops[j.i]? with
      | none => rw [ho] at ht; simp at ht
      | some o => exact ⟨o, rfl⟩
    · exact ih2 _ ht.2 j hj
theorem yieldsIf_putAll {S : World → Prop} {o : Oper} {v : Value} (hs : ∀ cs b, o.op ≠ .select cs b) (f : Nat → Value) (a : Act) : ∀ J : List Job, (∀ j ∈ J, j.d ∉ o.looksAt ops) → YieldsIf P ops S o v a → YieldsIf P ops S o v (putAll f J a)
  | [], _, h => h
  | j :: J, h1, h => by
    have h2 := yieldsIf_putAll hs f a J (fun k hk => h1 k (by simp [hk])) h
    have h3 : ∀ d, some j.d = some d → d ∉ o.looksAt ops := fun d hd => by cases hd; exact h1 j (by simp)
    exact h2.of_same (execOp_put o hs (putAll f J a) (some j.d) (f j.i) h3) (wanted_put o (putAll f J a) (some j.d) (f j.i) h3)
theorem jobs_frame (J : List Job) (R : Nat → Value → World → Prop) (fixed : Nat → Bool) (val : Nat → Value) (l : Array Bool)
    (hjs : ∀ (x : Job), x ∈ J → (l.getD x.i true = false ∧ x.i < l.size) ∧ ∀ (y : Job), y ∈ J → (y.i = x.i ∨ (y.d == x.d) = false) ∧
      (match ops[x.i]? with | some o => !(o.looksAt ops).contains y.d || (fixed y.i && y.i != x.i && o.after.any fun e => Region.binds md e && e.on == y.i) | none => false) = true)
    (_hR : ∀ j ∈ J, ∀ v w w', R j.i v w → Below w.heap.size w w' → R j.i v w') (hfix : ∀ j ∈ J, fixed j.i = true → ∀ v w, R j.i v w → v = val j.i) (hdd : ∀ x ∈ J, ∀ y ∈ J, x = y ∨ x.d ≠ y.d)
    {rem done : List Job} {f : Nat → Value} {w : World} (hp : (rem ++ done).Perm J) (hdJ : ∀ j ∈ done, j ∈ J) (hrJ : ∀ j ∈ rem, j ∈ J) (hsep : ∀ j ∈ rem, ∀ k ∈ done, k.i ≠ j.i)
    (hun : ∀ j ∈ rem, (setAll done l).getD j.i true = false) (hRd : ∀ j ∈ done, R j.i (f j.i) w) (j : Job) (hj : j ∈ rem) (o : Oper) (ho : ops[j.i]? = some o)
    (hall : ∀ e ∈ o.after, Region.binds md e = true → (setAll done l).getD e.on false = true) :
    ∀ b : Act, putAll f done b = putAll f (done.filter (fun k => !(o.looksAt ops).contains k.d)) (putAll val (predsOf ops J j) b) := by
  have hjJ := hrJ j hj
  -- what the job looks at has come up
  have hlook : ∀ k ∈ J, k.d ∈ o.looksAt ops → k ∈ done ∧ fixed k.i = true := fun k hk h => by
    have h1 := ((hjs j hjJ).2 k hk).2
    rw [ho] at h1
    have h0 : (o.looksAt ops).contains k.d = true := by simpa using h
    simp only [h0, Bool.not_true, Bool.false_or, Bool.and_eq_true] at h1
    obtain ⟨⟨hfx, hkj⟩, hed⟩ := h1
    obtain ⟨e, he, hb2⟩ := Array.any_eq_true'.1 hed
    simp only [Bool.and_eq_true, beq_iff_eq] at hb2
    have h2 := hall e he hb2.1
    rw [hb2.2] at h2
    refine ⟨?_, hfx⟩
    rcases List.mem_append.1 (hp.mem_iff.2 hk) with h3 | h3
    · exfalso
      have hlt : k.i < (setAll done l).size := by rw [setAll_size]; exact (hjs k hk).1.2
      rw [← getD_true_false hlt, hun k h3] at h2
      cases h2
    · exact h3
  have hpr : predsOf ops J j = J.filter fun k => (o.looksAt ops).contains k.d := by unfold predsOf; rw [ho]
  -- the frame: what is looked at lies under the rest
  have hsplit : (done.filter (fun k => !(o.looksAt ops).contains k.d) ++ done.filter (fun k => (o.looksAt ops).contains k.d)).Perm done :=
    (List.perm_append_comm).trans (List.filter_append_perm (fun k => (o.looksAt ops).contains k.d) done)
  have hpp : (done.filter fun k => (o.looksAt ops).contains k.d).Perm (predsOf ops J j) := by
    rw [hpr]
    have h1 : ((rem ++ done).filter fun k => (o.looksAt ops).contains k.d).Perm (J.filter fun k => (o.looksAt ops).contains k.d) := hp.filter _
    rw [List.filter_append] at h1
    have h2 : (rem.filter fun k => (o.looksAt ops).contains k.d) = [] := by
      rw [List.filter_eq_nil_iff]
      intro k hk h3
      have h4 := (hlook k (hrJ k hk) (by simpa using h3)).1
      exact hsep k hk k h4 rfl
    rw [h2, List.nil_append] at h1
    exact h1
  have hframe : ∀ b : Act, putAll f done b = putAll f (done.filter (fun k => !(o.looksAt ops).contains k.d)) (putAll val (predsOf ops J j) b) := fun b => by
    rw [← putAll_perm (a := b) (f := f) hsplit (fun x hx y hy => hdd x (hdJ x (hsplit.mem_iff.1 hx)) y (hdJ y (hsplit.mem_iff.1 hy))), putAll_append]
    congr 1
    rw [putAll_perm hpp (fun x hx y hy => hdd x (hdJ x (List.mem_filter.1 hx).1) y (hdJ y (List.mem_filter.1 hy).1))]
    refine putAll_same b _ fun k hk => ?_
    have hk2 := hpp.mem_iff.2 hk
    have hk3 := (List.mem_filter.1 hk2).1
    have hk4 := hlook k (hdJ k hk3) (by simpa using (List.mem_filter.1 hk2).2)
    exact hfix k (hdJ k hk3) hk4.2 _ _ (hRd k hk3)
  exact hframe
theorem wpAnyZ_jobsD {S : World → Prop} {z : Nat} (J : List Job) (R : Nat → Value → World → Prop) (fixed late : Nat → Bool) (val : Nat → Value) (fuel : Nat) (l : Array Bool) (a : Act) (w0 : World) (hok : jobsOkD md ops l J fixed late z = true)
    (hQ2 : ∀ c a d v w, Q (.panic c) (a.put (some d) v) w → Q (.panic c) a w) (hlate : ∀ j ∈ J, late j.i = true → ∃ o, ops[j.i]? = some o ∧ YieldsIf P ops S o (val j.i) (putAll val (predsOf ops J j) a) ∧ (∀ w, R j.i (val j.i) w) ∧ ∀ g, blockOf (val j.i) = some g → False)
    (hQ : ∀ c a d v w, Q (.panic c) a w → Q (.panic c) (a.put (some d) v) w)
    (hS : ∀ w w', S w → Below w.heap.size w w' → S w') (hR : ∀ j ∈ J, ∀ v w w', R j.i v w → Below w.heap.size w w' → R j.i v w')
    (hfix : ∀ j ∈ J, fixed j.i = true → ∀ v w, R j.i v w → v = val j.i)
    (hjob : ∀ j ∈ J, JobAt P ops Q S (putAll val (predsOf ops J j) a) j (R j.i)) (hS0 : S w0)
    (hend : ∀ (f : Nat → Value) (w : World), S w → Below w0.heap.size w0 w → (∀ j ∈ J, R j.i (f j.i) w) → (∀ j ∈ J, ∀ g, blockOf (f j.i) = some g → w0.heap.size ≤ g ∧ g < w.heap.size) →
      (∀ j ∈ J, ∀ k ∈ J, j.i ≠ k.i → ApartV (f j.i) (f k.i)) → wpAnyZ P md ops Q S z fuel (setAll J l) (putAll f J a) w) :
    wpAnyZ P md ops Q S z (J.length + fuel) l a w0 := by
  unfold jobsOkD at hok
  simp only [Bool.and_eq_true] at hok
  obtain ⟨⟨⟨⟨⟨⟨hns, htopo⟩, hjs⟩, hrest⟩, hnd⟩, hlt⟩, hzJ⟩ := hok
  have hnd' : (J.map (·.i)).Nodup := of_decide_eq_true hnd
  simp only [List.all_eq_true, Bool.and_eq_true, Bool.not_eq_true', decide_eq_true_eq, Bool.or_eq_true, beq_iff_eq, List.mem_range, bne_iff_ne] at hjs hrest hlt hzJ
  have hinj : ∀ j ∈ J, ∀ k ∈ J, j.i = k.i → j = k := fun j hj k hk h => by
    have h1 := List.pairwise_map.1 hnd'
    rcases Decidable.em (j = k) with h2 | h2
    · exact h2
    · exact absurd h (pair_ne J h1 j hj k hk h2)
  have hdd : ∀ x ∈ J, ∀ y ∈ J, x = y ∨ x.d ≠ y.d := fun x hx y hy => by
    by_cases h : x.i = y.i
    · exact Or.inl (hinj x hx y hy h)
    · right
      rcases ((hjs x hx).2 y hy).1 with h2 | h2
      · exact absurd h2.symm h
      · exact fun h3 => by simp [h3] at h2
  suffices H : ∀ (n : Nat) (rem done : List Job) (f : Nat → Value) (w : World), rem.length = n → (rem ++ done).Perm J → S w → Below w0.heap.size w0 w → (∀ j ∈ done, R j.i (f j.i) w) →
      (∀ j ∈ done, ∀ g, blockOf (f j.i) = some g → w0.heap.size ≤ g ∧ g < w.heap.size) → (∀ j ∈ done, ∀ k ∈ done, j.i ≠ k.i → ApartV (f j.i) (f k.i)) → (∀ q ∈ done, ∀ o, ops[q.i]? = some o → ∀ e ∈ o.after, Region.binds md e = true → (setAll done l).getD e.on false = true) → wpAnyZ P md ops Q S z (n + fuel) (setAll done l) (putAll f done a) w by
    exact H J.length J [] (fun _ => undef) w0 rfl (by simp) hS0 (Below.refl _ _) (by simp) (by simp) (by simp) (by simp)
  intro n
  induction n with
  | zero =>
    intro rem done f w hn hp hSw hb hRd hbl hap hcl
    have hr : rem = [] := List.length_eq_zero_iff.1 hn
    subst hr
    simp only [List.nil_append] at hp
    have e1 : setAll done l = setAll J l := hp.foldr_eq' (fun x _ y _ z => Classical.byCases (fun h : x.i = y.i => by rw [h]) (fun h => by rw [Array.setIfInBounds_comm _ _ h])) _
    have e2 : putAll f done a = putAll f J a := putAll_perm hp fun x hx y hy => hdd x (hp.mem_iff.1 hx) y (hp.mem_iff.1 hy)
    rw [e1, e2, Nat.zero_add]
    exact hend f w hSw hb (fun j hj => hRd j (hp.mem_iff.2 hj)) (fun j hj => hbl j (hp.mem_iff.2 hj)) (fun j hj k hk => hap j (hp.mem_iff.2 hj) k (hp.mem_iff.2 hk))
  | succ n ih =>
    intro rem done f w hn hp hSw hb hRd hbl hap hcl
    have hdJ : ∀ j ∈ done, j ∈ J := fun j hj => hp.mem_iff.1 (by simp [hj])
    have hrJ : ∀ j ∈ rem, j ∈ J := fun j hj => hp.mem_iff.1 (by simp [hj])
    have hndp : ((rem ++ done).map (·.i)).Nodup := (hp.map _).nodup_iff.2 hnd'
    have hndd : (done.map (·.i)).Nodup := by
      rw [List.map_append, List.nodup_append] at hndp
      exact hndp.2.1
    have hsep : ∀ j ∈ rem, ∀ k ∈ done, k.i ≠ j.i := by
      rw [List.map_append, List.nodup_append] at hndp
      intro j hj k hk h
      exact hndp.2.2 j.i (List.mem_map_of_mem hj) k.i (List.mem_map_of_mem hk) h.symm
    have hun : ∀ j ∈ rem, (setAll done l).getD j.i true = false := fun j hj => by
      rw [setAll_get l j.i true done (hsep j hj)]
      exact (hjs j (hrJ j hj)).1.1
    have hrne : ∃ j, j ∈ rem := by
      cases rem with
      | nil => simp at hn
      | cons j r => exact ⟨j, by simp⟩
    by_cases hm : ∃ j ∈ rem, late j.i = false
    rotate_left
    · -- only late jobs are left: one of them is taken first
      have hall : ∀ j ∈ rem, late j.i = true := fun j hj => by
        cases h : late j.i with
        | true => rfl
        | false => exact absurd ⟨j, hj, h⟩ hm
      obtain ⟨j1, hj1⟩ := hrne
      obtain ⟨j, hjJ, hjr⟩ := topo_ready' J l htopo (setAll done l) (fun i hi => setAll_mono l i hi done) (fun j hj => by rw [setAll_size]; exact (hjs j hj).1.2) ⟨j1, hrJ j1 hj1, hun j1 hj1⟩
      have hj : j ∈ rem := by
        rcases List.mem_append.1 (hp.mem_iff.2 hjJ) with h1 | h1
        · exact h1
        · exfalso
          have h2 := (mem_ready.1 hjr).1
          rw [setAll_mem l true done (fun j hj => (hjs j (hdJ j hj)).1.2) j h1] at h2
          cases h2
      obtain ⟨o, ho, hy, hRv, hbv⟩ := hlate j hjJ (hall j hj)
      have hl := (hlt j hjJ).resolve_left (by rw [hall j hj]; decide)
      obtain ⟨⟨⟨⟨hfx, hwz⟩, hjz⟩, hzl⟩, hfree⟩ := hl
      obtain ⟨_, o', ho', hall'⟩ := mem_ready.1 hjr
      obtain rfl : o' = o := Option.some.inj (ho'.symm.trans ho)
      have hdst : o'.dst = some j.d := topo_dst J l htopo j hjJ o' ho
      have hframe := jobs_frame J R fixed val l hjs hR hfix hdd hp hdJ hrJ hsep hun hRd j hj o' ho hall'
      have hne : ∀ k ∈ done, k.d ≠ j.d := fun k hk => by
        rcases ((hjs j hjJ).2 k (hdJ k hk)).1 with h1 | h1
        · exact absurd h1 (hsep j hj k hk)
        · simpa using h1
      have hy2 : YieldsIf P ops S o' (val j.i) (putAll f done a) := by
        rw [hframe a]
        exact yieldsIf_putAll (fun cs b => Region.noSelect_spec hns j.i o' cs b ho) f _ _ (fun k hk h => by
          have := (List.mem_filter.1 hk).2
          simp [h] at this) hy
      have hzu : (setAll done l).getD z true = false := by
        rw [setAll_get l z true done (fun k hk => hzJ k (hdJ k hk))]
        exact hzl
      rw [show n + 1 + fuel = (n + fuel) + 1 by omega]
      refine wpAnyZ_first ho (Region.noSelect_spec hns) (fun c a w h => by rw [hdst] at h; exact hQ2 _ _ _ _ _ h) hjz (Region.waitsFor_spec hwz) (n + fuel) _ _ w (fun q oq hq hqj hqu hno => ?_) hjr hy2 hSw hzu ?_
      · refine Region.free_spec ho hfree q oq hq hqj ?_ hno
        cases h : (setAll (J.filter fun k => !late k.i) l).getD q true with
        | false => rfl
        | true =>
          exfalso
          by_cases hq2 : ∃ k ∈ J.filter (fun k => !late k.i), k.i = q
          · obtain ⟨k, hk, rfl⟩ := hq2
            have hkd : k ∈ done := by
              rcases List.mem_append.1 (hp.mem_iff.2 (List.mem_filter.1 hk).1) with h1 | h1
              · have := hall k h1
                have := (List.mem_filter.1 hk).2
                simp_all
              · exact h1
            rw [setAll_mem l true done (fun j hj => (hjs j (hdJ j hj)).1.2) k hkd] at hqu
            cases hqu
          · rw [setAll_get l q true _ (fun k hk h => hq2 ⟨k, hk, h⟩)] at h
            by_cases hq3 : ∃ k ∈ done, k.i = q
            · obtain ⟨k, hk, rfl⟩ := hq3
              rw [setAll_mem l true done (fun j hj => (hjs j (hdJ j hj)).1.2) k hk] at hqu
              cases hqu
            · rw [setAll_get l q true done (fun k hk h => hq3 ⟨k, hk, h⟩), h] at hqu
              cases hqu
      · have hf : ∀ k ∈ done, f k.i = updJ f j.i (val j.i) k.i := fun k hk => (updJ_ne f j.i (val j.i) k.i (hsep j hj k hk)).symm
        have hvj : updJ f j.i (val j.i) j.i = val j.i := updJ_self f j.i (val j.i)
        rw [hdst, putAll_same (g := updJ f j.i (val j.i)) a done hf, show ((putAll (updJ f j.i (val j.i)) done a).put (some j.d) (val j.i)) = putAll (updJ f j.i (val j.i)) (j :: done) a from by
          show _ = (putAll (updJ f j.i (val j.i)) done a).put (some j.d) (updJ f j.i (val j.i) j.i)
          rw [hvj]]
        refine ih (rem.erase j) (j :: done) _ w (by rw [List.length_erase_of_mem hj, hn]; rfl) ?_ hSw hb ?_ ?_ ?_ ?_
        · refine List.Perm.trans ?_ hp
          have h1 : (rem.erase j ++ j :: done).Perm (j :: (rem.erase j ++ done)) := List.perm_middle
          exact h1.trans ((List.perm_cons_erase hj).symm.append_right done)
        · intro k hk
          rcases List.mem_cons.1 hk with rfl | hk
          · rw [hvj]; exact hRv w
          · rw [← hf k hk]; exact hRd k hk
        · intro k hk g hg
          rcases List.mem_cons.1 hk with rfl | hk
          · rw [hvj] at hg
            exact (hbv g hg).elim
          · rw [← hf k hk] at hg
            exact hbl k hk g hg
        · intro k hk m hm hkm
          rcases List.mem_cons.1 hk with h1 | h1 <;> rcases List.mem_cons.1 hm with h2 | h2
          · exact absurd (by rw [h1, h2]) hkm
          · rw [h1, hvj]
            intro g h3 _
            exact hbv g h3
          · rw [h2, hvj]
            intro g _ h4
            exact hbv g h4
          · rw [← hf m h2, ← hf k h1]
            exact hap k h1 m h2 hkm
        · intro k hk oq hoq e he hbe
          show ((setAll done l).setIfInBounds j.i true).getD e.on false = true
          rcases List.mem_cons.1 hk with h1 | h1
          · subst h1
            obtain rfl : oq = o' := Option.some.inj (hoq.symm.trans ho)
            exact getD_set_true (hall' e he hbe)
          · exact getD_set_true (hcl k h1 oq hoq e he hbe)
    obtain ⟨j0, hj0, hj0l⟩ := hm
    rw [show n + 1 + fuel = (n + fuel) + 1 by omega]
    refine ⟨fun h => absurd h (topo_ready J l htopo _ (fun i hi => setAll_mono l i hi done) (fun j hj => by rw [setAll_size]; exact (hjs j hj).1.2) ⟨j0, hrJ j0 hj0, hun j0 hj0⟩), fun i hi => ?_⟩
    obtain ⟨hiun, o, ho, hall⟩ := mem_ready.1 hi
    obtain ⟨j, hj, rfl⟩ : ∃ j ∈ rem, j.i = i := by
      rcases hrest i (Array.getElem?_eq_some_iff.1 ho).1 with h | h
      · rcases h with h | h
        rotate_left
        · exfalso
          rw [ho] at h
          obtain ⟨e, he, hb2⟩ := Array.any_eq_true'.1 h
          simp only [Bool.and_eq_true, Bool.not_eq_true', List.any_eq_false, beq_iff_eq] at hb2
          have h2 := hall e he hb2.1.1
          rw [setAll_get l e.on false done (fun k hk => hb2.2 k (hdJ k hk))] at h2
          have h3 := hb2.1.2
          have h4 : e.on < l.size := by
            rcases Nat.lt_or_ge e.on l.size with h' | h'
            · exact h'
            · simp [Array.getElem?_eq_none h'] at h3
          rw [getD_true_false h4, h2] at h3
          cases h3
        rcases h with h | h
        · exfalso
          by_cases hd : ∃ k ∈ done, k.i = i
          · obtain ⟨k, hk, rfl⟩ := hd
            rw [setAll_mem l true done (fun j hj => (hjs j (hdJ j hj)).1.2) k hk] at hiun
            cases hiun
          · rw [setAll_get l i true done (fun k hk h => hd ⟨k, hk, h⟩)] at hiun
            rw [hiun] at h
            cases h
        · obtain ⟨k, hk, hki⟩ := List.any_eq_true.1 h
          have hki' : k.i = i := by simpa using hki
          rcases List.mem_append.1 (hp.mem_iff.2 hk) with h1 | h1
          · exact ⟨k, h1, hki'⟩
          · exfalso
            rw [← hki', setAll_mem l true done (fun j hj => (hjs j (hdJ j hj)).1.2) k h1] at hiun
            cases hiun
      · exfalso
        have h1 := (h j0 (hrJ j0 hj0)).resolve_left (by rw [hj0l]; decide)
        have h2 := reachJ_spec (L := setAll done l) (fun q hq hql => by
          rcases List.mem_append.1 (hp.mem_iff.2 hq) with h3 | h3
          · exfalso
            have h4 : q.i < (setAll done l).size := by rw [setAll_size]; exact (hjs q hq).1.2
            rw [← getD_true_false h4, hun q h3] at hql
            cases hql
          · exact h3) hcl (fun q hq => topo_some J l htopo q hq) _ i j0.i o ho hall h1
        have hlt : j0.i < (setAll done l).size := by rw [setAll_size]; exact (hjs j0 (hrJ j0 hj0)).1.2
        rw [← getD_true_false hlt, hun j0 hj0] at h2
        cases h2
    have hjJ := hrJ j hj
    have hdst : o.dst = some j.d := topo_dst J l htopo j hjJ o ho
    have hframe := jobs_frame J R fixed val l hjs hR hfix hdd hp hdJ hrJ hsep hun hRd j hj o ho hall
    have hne : ∀ k ∈ done, k.d ≠ j.d := fun k hk => by
      rcases ((hjs j hjJ).2 k (hdJ k hk)).1 with h1 | h1
      · exact absurd h1 (hsep j hj k hk)
      · simpa using h1
    rw [hframe a]
    refine wpOp_putAll ho (fun cs b => Region.noSelect_spec hns j.i o cs b ho) hdst hQ f _ _ _ (fun k hk h => ?_) (fun k hk => hne k (List.mem_filter.1 hk).1) ?_
    · have := (List.mem_filter.1 hk).2
      simp [h] at this
    refine hjob j hjJ w _ hSw fun v w' hv hbw hbv => ?_
    have hf : ∀ k ∈ done, f k.i = updJ f j.i v k.i := fun k hk => (updJ_ne f j.i v k.i (hsep j hj k hk)).symm
    have hvj : updJ f j.i v j.i = v := updJ_self f j.i v
    rw [putAll_put f j.d v _ _ (fun k hk => hne k (List.mem_filter.1 hk).1), ← hframe a, putAll_same (g := updJ f j.i v) a done hf, show ((putAll (updJ f j.i v) done a).put (some j.d) v) = putAll (updJ f j.i v) (j :: done) a from by
      show _ = (putAll (updJ f j.i v) done a).put (some j.d) (updJ f j.i v j.i)
      rw [hvj]]
    have hb2 : Below w0.heap.size w0 w' := hb.trans (hbw.mono hb.size)
    have hsz := hbw.size
    have hsz0 := hb.size
    refine ⟨fun _ => hS w w' hSw hbw, ih (rem.erase j) (j :: done) _ w' (by rw [List.length_erase_of_mem hj, hn]; rfl) ?_ (hS w w' hSw hbw) hb2 ?_ ?_ ?_ ?_⟩
    · refine List.Perm.trans ?_ hp
      have h1 : (rem.erase j ++ j :: done).Perm (j :: (rem.erase j ++ done)) := List.perm_middle
      exact h1.trans ((List.perm_cons_erase hj).symm.append_right done)
    · intro k hk
      rcases List.mem_cons.1 hk with rfl | hk
      · rw [hvj]; exact hv
      · rw [← hf k hk]; exact hR k (hdJ k hk) _ _ _ (hRd k hk) hbw
    · intro k hk g hg
      rcases List.mem_cons.1 hk with rfl | hk
      · rw [hvj] at hg
        have := hbv g hg
        exact ⟨by omega, this.2⟩
      · rw [← hf k hk] at hg
        have := hbl k hk g hg
        exact ⟨this.1, by omega⟩
    · intro k hk m hm hkm
      rcases List.mem_cons.1 hk with h1 | h1 <;> rcases List.mem_cons.1 hm with h2 | h2
      · exact absurd (by rw [h1, h2]) hkm
      · rw [h1, hvj, ← hf m h2]
        intro g h3 h4
        have := hbv g h3; have := hbl m h2 g h4
        omega
      · rw [h2, hvj, ← hf k h1]
        intro g h3 h4
        have := hbv g h4; have := hbl k h1 g h3
        omega
      · rw [← hf m h2, ← hf k h1]
        exact hap k h1 m h2 hkm
    · intro k hk oq hoq e he hbe
      show ((setAll done l).setIfInBounds j.i true).getD e.on false = true
      rcases List.mem_cons.1 hk with h1 | h1
      · subst h1
        obtain rfl : oq = o := Option.some.inj (hoq.symm.trans ho)
        exact getD_set_true (hall e he hbe)
      · exact getD_set_true (hcl k h1 oq hoq e he hbe)

def specOf : List (Job × Spec) → Nat → Spec
  | [], _ => .is undef
  | p :: L, i => if p.1.i = i then p.2 else specOf L i
/-- The same, each job beside its word. -/
theorem wpAnyZ_jobsL {S : World → Prop} {z : Nat} (L : List (Job × Spec)) (lates : List Nat) (fuel : Nat) (l : Array Bool) (a : Act) (w0 : World) (hok : jobsOkD md ops l (L.map (·.1)) (fun i => (specOf L i).fixed) (fun i => lates.contains i) z = true)
    (hQ2 : ∀ c a d v w, Q (.panic c) (a.put (some d) v) w → Q (.panic c) a w) (hlate : ∀ j ∈ L.map (·.1), lates.contains j.i = true → ∃ o, ops.toList[j.i]? = some o ∧ YieldsIf P ops S o ((specOf L j.i).val) (putAll (fun i => (specOf L i).val) (predsOf ops (L.map (·.1)) j) a) ∧ (∀ w, (specOf L j.i).holds ((specOf L j.i).val) w) ∧ ∀ g, blockOf ((specOf L j.i).val) = some g → False)
    (hQ : ∀ c a d v w, Q (.panic c) a w → Q (.panic c) (a.put (some d) v) w)
    (hS : ∀ w w', S w → Below w.heap.size w w' → S w') (hS0 : S w0)
    (hR : ∀ j ∈ L.map (·.1), ∀ v w w', (specOf L j.i).holds v w → Below w.heap.size w w' → (specOf L j.i).holds v w')
    (hjob : ∀ j ∈ L.map (·.1), JobAt P ops Q S (putAll (fun i => (specOf L i).val) (predsOf ops (L.map (·.1)) j) a) j (specOf L j.i).holds)
    (hend : ∀ (f : Nat → Value) (w : World), S w → Below w0.heap.size w0 w → (∀ j ∈ L.map (·.1), (specOf L j.i).holds (f j.i) w) → (∀ j ∈ L.map (·.1), ∀ g, blockOf (f j.i) = some g → w0.heap.size ≤ g ∧ g < w.heap.size) →
      (∀ j ∈ L.map (·.1), ∀ k ∈ L.map (·.1), j.i ≠ k.i → ApartV (f j.i) (f k.i)) → wpAnyZ P md ops Q S z fuel (setAll (L.map (·.1)) l) (putAll f (L.map (·.1)) a) w) :
    wpAnyZ P md ops Q S z ((L.map (·.1)).length + fuel) l a w0 := by
  have hlate' : ∀ j ∈ L.map (·.1), lates.contains j.i = true → ∃ o, ops[j.i]? = some o ∧ YieldsIf P ops S o ((specOf L j.i).val) (putAll (fun i => (specOf L i).val) (predsOf ops (L.map (·.1)) j) a) ∧ (∀ w, (specOf L j.i).holds ((specOf L j.i).val) w) ∧ ∀ g, blockOf ((specOf L j.i).val) = some g → False := by
    intro j hj h
    obtain ⟨o, h1, h2⟩ := hlate j hj h
    rw [Array.getElem?_toList] at h1
    exact ⟨o, h1, h2⟩
  refine wpAnyZ_jobsD (L.map (·.1)) (fun i => (specOf L i).holds) (fun i => (specOf L i).fixed) (fun i => lates.contains i) (fun i => (specOf L i).val) fuel l a w0 hok hQ2 hlate' hQ hS hR (fun j _ hf v w h => ?_) hjob hS0 hend
  cases hs : specOf L j.i with
  | is u => rw [hs] at h; exact h
  | rel R => rw [hs] at hf; cases hf
/-- What is read or reckoned is a job. -/
theorem job_yield {S : World → Prop} {j : Job} {a : Act} {o : Oper} (ho : ops.toList[j.i]? = some o) (hd : o.dst = some j.d) (v : Value) (hv : ∀ g, blockOf v = some g → False) (hy : YieldsIf P ops S o v a) :
    JobAt P ops Q S a j (Spec.is v).holds := by
  intro w K hS hK
  refine hy.wpOp (by rw [← Array.getElem?_toList]; exact ho) hS ?_
  rw [hd]
  exact hK v w rfl (Below.refl _ _) (fun g hg => (hv g hg).elim)
theorem yields_frame {S : World → Prop} {J : List Job} {j : Job} {val : Nat → Value} {a : Act} {o : Oper} {v : Value} (J' : List Job) (hp : predsOf ops J j = J') (h : YieldsIf P ops S o v (putAll val J' a)) :
    YieldsIf P ops S o v (putAll val (predsOf ops J j) a) := hp ▸ h
theorem block_bool (b : Bool) (g : Nat) (h : blockOf (.bool b) = some g) : False := by cases h
theorem block_agg (c : Array Value) (g : Nat) (h : blockOf (.agg c) = some g) : False := by cases h
theorem block_tuple (c : Array Value) (g : Nat) (h : blockOf (.tuple c) = some g) : False := by cases h
end


end Go.Proofs.Ytnahjmladhbmpaa
