/- Calls and allocations that come up in any order, in a region that draws its order: one way through them all. -/
import Derived.Test.YtnahjmladhbmpaaLe
namespace Go.Proofs.Ytnahjmladhbmpaa
open Go.RowKit

section
variable {P : Program} {md : Region.Mode} {ops : Array Oper} {Q : Exit → Act → World → Prop}

/-- The block that a pointer leads to. -/
def blockOf : Value → Option Nat
  | .pointer (some a) => some a.block
  | _ => none
/-- Two values lead to different blocks, if to any. -/
def ApartV (u v : Value) : Prop := ∀ g, blockOf u = some g → blockOf v = some g → False
theorem ApartV.symm {u v : Value} (h : ApartV u v) : ApartV v u := fun g a b => h g b a

structure Job where
  i : Nat
  d : Tmp
  deriving DecidableEq

/-- A frame with a slot written that an operation neither looks at nor writes: the operation does the same. -/
theorem wpOp_over {j : Nat} {oj : Oper} (hj : ops[j]? = some oj) (hsj : ∀ cs b, oj.op ≠ .select cs b) {d : Tmp} (hd : d ∉ oj.looksAt ops) (hdd : oj.dst ≠ some d)
    (hQ : ∀ c a d v w, Q (.panic c) a w → Q (.panic c) (a.put (some d) v) w) {K : Act → World → Prop} {a : Act} {w : World} (v : Value)
    (h : wpOp P ops Q j (fun a' w' => K (a'.put (some d) v) w') a w) : wpOp P ops Q j K (a.put (some d) v) w := by
  have h1 : ∀ x, (some d : Option Tmp) = some x → x ∉ oj.looksAt ops := fun x hx => by cases hx; exact hd
  have h2 : ∀ x, (some d : Option Tmp) = some x → oj.dst ≠ some x := fun x hx => by cases hx; exact hdd
  unfold wpOp at *
  simp only [hj] at *
  rw [wanted_put oj a (some d) v h1]
  split
  · rename_i hw
    simp only [hw, if_true] at h
    rcases h with h | ⟨hasks, hlets⟩
    case inr => exact .inr ⟨by unfold Oper.asks at *; rw [execOp_put oj hsj a (some d) v h1]; exact hasks, hlets⟩
    refine .inl ?_
    unfold Oper.wp at *
    rw [execOp_put oj hsj a (some d) v h1]
    generalize (execOp a.eval oj).run P w = r at *
    cases r with
    | ok n w' =>
      cases n <;> simp only [Oper.upon] at h ⊢
      case value u => rw [Act.put_comm a v u h2]; exact h
      case skip => rw [Act.put_comm a v undef h2]; exact h
      case defer e =>
        rw [Act.put_defers, Act.put_comm _ v undef h2]
        exact h
      case enter f args =>
        refine Calls.mono h fun e w'' he => ?_
        cases e with
        | returned u =>
          show K ((a.put (some d) v).put oj.dst u) w''
          rw [Act.put_comm a v u h2]
          exact he
        | panicked c => exact hQ _ _ _ _ _ he
        | outgrown => exact he
      case row row args => exact Rows.mono h fun u w'' he => by rw [Act.put_comm a v u h2]; exact he
    | halt x w' =>
      cases x <;> simp only [Oper.upon] at h ⊢
      case panic u => exact hQ _ _ _ _ _ h
  · rename_i hw
    simp only [hw] at h
    rw [Act.put_comm a v undef h2]
    exact h

/-- Which slots the jobs write: none that a job looks at, no two the same; what else has not come up waits for every job; the jobs are told in an order in which they may come. -/
def topo (md : Region.Mode) (ops : Array Oper) : Array Bool → List Job → Bool
  | _, [] => true
  | l, j :: J => (match ops[j.i]? with
      | some o => o.dst == some j.d && o.after.all fun e => !Region.binds md e || l.getD e.on false
      | none => false) && topo md ops (l.setIfInBounds j.i true) J
def jobsOk (md : Region.Mode) (ops : Array Oper) (l : Array Bool) (J : List Job) : Bool :=
  Region.noSelect ops && topo md ops l J &&
  (J.all fun j => !l.getD j.i true && decide (j.i < l.size) && J.all fun k => (k.i == j.i || !(k.d == j.d)) && (match ops[j.i]? with | some o => !(o.looksAt ops).contains k.d | none => false)) &&
  ((List.range ops.size).all fun k => l.getD k true || J.any (fun j => j.i == k) || J.all fun j => match ops[k]? with | some o => o.after.any (fun e => Region.binds md e && e.on == j.i) | none => true) &&
  decide ((J.map (·.i)).Nodup)

theorem getD_set_self {l : Array Bool} {i : Nat} (h : i < l.size) (d : Bool) : (l.setIfInBounds i true).getD i d = true := by simp [h]
theorem getD_true_false {l : Array Bool} {i : Nat} (h : i < l.size) : l.getD i true = l.getD i false := by simp [h]

theorem topo_ready : ∀ (J : List Job) (l0 : Array Bool), topo md ops l0 J = true → ∀ listed : Array Bool, (∀ i, l0.getD i false = true → listed.getD i false = true) → (∀ j ∈ J, j.i < listed.size) →
    (∃ j ∈ J, listed.getD j.i true = false) → Region.ready md ops listed ≠ []
  | [], _, _, _, _, _, ⟨_, h, _⟩ => by cases h
  | j :: J, l0, ht, listed, hsub, hlt, hex => by
    unfold topo at ht
    rw [Bool.and_eq_true] at ht
    by_cases hj : listed.getD j.i true = false
    · intro hnil
      have : j.i ∈ Region.ready md ops listed := by
        rw [mem_ready]
        refine ⟨hj, ?_⟩
        cases ho : ops[j.i]? with
        | none => rw [ho] at ht; simp at ht
        | some o =>
          refine ⟨o, rfl, fun e he hb => hsub _ ?_⟩
          have h1 := ht.1
          rw [ho] at h1
          simp only [Bool.and_eq_true, Array.all_eq_true_iff_forall_mem] at h1
          have h2 := h1.2 e he
          simpa [hb] using h2
      rw [hnil] at this
      cases this
    · have hj' : listed.getD j.i false = true := by
        rw [← getD_true_false (hlt j (by simp))]
        simpa using hj
      refine topo_ready J _ ht.2 listed (fun i hi => ?_) (fun k hk => hlt k (by simp [hk])) ?_
      · by_cases hij : j.i = i
        · subst hij; exact hj'
        · rw [getD_set_ne false hij] at hi; exact hsub i hi
      · obtain ⟨k, hk, hk2⟩ := hex
        rcases List.mem_cons.1 hk with rfl | hk
        · exact absurd hk2 hj
        · exact ⟨k, hk, hk2⟩

def putAll (f : Nat → Value) (J : List Job) (a : Act) : Act := J.foldr (fun j a => a.put (some j.d) (f j.i)) a
def setAll (J : List Job) (l : Array Bool) : Array Bool := J.foldr (fun j l => l.setIfInBounds j.i true) l
theorem setAll_size (l : Array Bool) : ∀ J : List Job, (setAll J l).size = l.size
  | [] => rfl
  | j :: J => by
    show ((setAll J l).setIfInBounds j.i true).size = _
    rw [Array.size_setIfInBounds, setAll_size l J]
theorem setAll_get (l : Array Bool) (i : Nat) (d : Bool) : ∀ J : List Job, (∀ j ∈ J, j.i ≠ i) → (setAll J l).getD i d = l.getD i d
  | [], _ => rfl
  | j :: J, h => by
    show ((setAll J l).setIfInBounds j.i true).getD i d = _
    rw [getD_set_ne d (h j (by simp)), setAll_get l i d J fun k hk => h k (by simp [hk])]
theorem setAll_mem (l : Array Bool) (d : Bool) : ∀ J : List Job, (∀ j ∈ J, j.i < l.size) → ∀ j ∈ J, (setAll J l).getD j.i d = true
  | [], _, _, h => by cases h
  | k :: J, hl, j, hj => by
    show ((setAll J l).setIfInBounds k.i true).getD j.i d = true
    by_cases hkj : k.i = j.i
    · rw [hkj]
      exact getD_set_self (by rw [setAll_size]; exact hl j hj) d
    · rw [getD_set_ne d hkj]
      rcases List.mem_cons.1 hj with rfl | hj
      · exact absurd rfl hkj
      · exact setAll_mem l d J (fun k hk => hl k (by simp [hk])) j hj
theorem setAll_mono (l : Array Bool) (i : Nat) (h : l.getD i false = true) : ∀ J : List Job, (setAll J l).getD i false = true
  | [] => h
  | _ :: J => getD_set_true (setAll_mono l i h J)
theorem putAll_same {f g : Nat → Value} (a : Act) : ∀ J : List Job, (∀ j ∈ J, f j.i = g j.i) → putAll f J a = putAll g J a
  | [], _ => rfl
  | j :: J, h => by
    show (putAll f J a).put (some j.d) (f j.i) = (putAll g J a).put (some j.d) (g j.i)
    rw [h j (by simp), putAll_same a J fun k hk => h k (by simp [hk])]

/-- A job's word: in frame a, in every world that meets S and in which what was there stands. -/
def JobAt (P : Program) (ops : Array Oper) (Q : Exit → Act → World → Prop) (S : World → Prop) (a : Act) (j : Job) (R : Value → World → Prop) : Prop :=
  ∀ (w : World) (K : Act → World → Prop), S w →
    (∀ v w', R v w' → Below w.heap.size w w' → (∀ g, blockOf v = some g → w.heap.size ≤ g ∧ g < w'.heap.size) → K (a.put (some j.d) v) w') → wpOp P ops Q j.i K a w

theorem wpOp_putAll {k : Job} {o : Oper} (ho : ops[k.i]? = some o) (hs : ∀ cs b, o.op ≠ .select cs b) (hd : o.dst = some k.d) (hQ : ∀ c a d v w, Q (.panic c) a w → Q (.panic c) (a.put (some d) v) w) (f : Nat → Value) {w : World} (a : Act) :
    ∀ (J : List Job) (K : Act → World → Prop), (∀ j ∈ J, j.d ∉ o.looksAt ops) → (∀ j ∈ J, j.d ≠ k.d) → wpOp P ops Q k.i (fun a' w' => K (putAll f J a') w') a w → wpOp P ops Q k.i K (putAll f J a) w
  | [], _, _, _, h => h
  | j :: J, K, h1, h2, h => by
    show wpOp P ops Q k.i K ((putAll f J a).put (some j.d) (f j.i)) w
    refine wpOp_over ho hs (h1 j (by simp)) (by rw [hd]; intro h; exact h2 j (by simp) (Option.some.inj h).symm) hQ _ ?_
    exact wpOp_putAll ho hs hd hQ f a J _ (fun i hi => h1 i (by simp [hi])) (fun i hi => h2 i (by simp [hi])) h
theorem putAll_put (f : Nat → Value) (d : Tmp) (v : Value) (a : Act) : ∀ J : List Job, (∀ j ∈ J, j.d ≠ d) → putAll f J (a.put (some d) v) = (putAll f J a).put (some d) v
  | [], _ => rfl
  | j :: J, h => by
    show (putAll f J (a.put (some d) v)).put (some j.d) (f j.i) = ((putAll f J a).put (some j.d) (f j.i)).put (some d) v
    rw [putAll_put f d v a J fun k hk => h k (by simp [hk])]
    exact Act.put_comm _ _ _ (fun x hx hy => by cases hx; exact h j (by simp) (Option.some.inj hy))

def updJ (f : Nat → Value) (i : Nat) (v : Value) (k : Nat) : Value := if k = i then v else f k
theorem updJ_self (f : Nat → Value) (i : Nat) (v : Value) : updJ f i v i = v := by simp [updJ]
theorem updJ_ne (f : Nat → Value) (i : Nat) (v : Value) (k : Nat) (h : k ≠ i) : updJ f i v k = f k := by simp [updJ, h]
theorem pair_ne : ∀ (J : List Job), List.Pairwise (fun a b => a.i ≠ b.i) J → ∀ j ∈ J, ∀ k ∈ J, j ≠ k → j.i ≠ k.i
  | [], _, _, h, _, _, _ => by cases h
  | x :: J, hp, j, hj, k, hk, hne => by
    rw [List.pairwise_cons] at hp
    rcases List.mem_cons.1 hj with h1 | h1 <;> rcases List.mem_cons.1 hk with h2 | h2
    · exact absurd (h1.trans h2.symm) hne
    · exact h1 ▸ hp.1 k h2
    · exact h2 ▸ Ne.symm (hp.1 j h1)
    · exact pair_ne J hp.2 j h1 k h2 hne

theorem wpAny_jobs {S : World → Prop} {z : Nat} (J : List Job) (R : Nat → Value → World → Prop) (fuel : Nat) (l : Array Bool) (a : Act) (w0 : World) (hok : jobsOk md ops l J = true)
    (hQ : ∀ c a d v w, Q (.panic c) a w → Q (.panic c) (a.put (some d) v) w)
    (hS : ∀ w w', S w → Below w.heap.size w w' → S w') (hR : ∀ j ∈ J, ∀ v w w', R j.i v w → Below w.heap.size w w' → R j.i v w')
    (hjob : ∀ j ∈ J, JobAt P ops Q S a j (R j.i)) (hS0 : S w0)
    (hend : ∀ (f : Nat → Value) (w : World), S w → Below w0.heap.size w0 w → (∀ j ∈ J, R j.i (f j.i) w) → (∀ j ∈ J, ∀ g, blockOf (f j.i) = some g → w0.heap.size ≤ g ∧ g < w.heap.size) →
      (∀ j ∈ J, ∀ k ∈ J, j.i ≠ k.i → ApartV (f j.i) (f k.i)) → wpAnyZ P md ops Q S z fuel (setAll J l) (putAll f J a) w) :
    wpAnyZ P md ops Q S z (J.length + fuel) l a w0 := by
  unfold jobsOk at hok
  simp only [Bool.and_eq_true] at hok
  obtain ⟨⟨⟨⟨hns, htopo⟩, hjs⟩, hrest⟩, hnd⟩ := hok
  have hnd' : (J.map (·.i)).Nodup := of_decide_eq_true hnd
  simp only [List.all_eq_true, Bool.and_eq_true, Bool.not_eq_true', decide_eq_true_eq, Bool.or_eq_true, beq_iff_eq, List.mem_range] at hjs hrest
  have hinj : ∀ j ∈ J, ∀ k ∈ J, j.i = k.i → j = k := fun j hj k hk h => by
    have h1 := List.pairwise_map.1 hnd'
    rcases Decidable.em (j = k) with h2 | h2
    · exact h2
    · exact absurd h (pair_ne J h1 j hj k hk h2)
  suffices H : ∀ (n : Nat) (rem done : List Job) (f : Nat → Value) (w : World), rem.length = n → (rem ++ done).Perm J → S w → Below w0.heap.size w0 w → (∀ j ∈ done, R j.i (f j.i) w) →
      (∀ j ∈ done, ∀ g, blockOf (f j.i) = some g → w0.heap.size ≤ g ∧ g < w.heap.size) → (∀ j ∈ done, ∀ k ∈ done, j.i ≠ k.i → ApartV (f j.i) (f k.i)) → wpAnyZ P md ops Q S z (n + fuel) (setAll done l) (putAll f done a) w by
    exact H J.length J [] (fun _ => undef) w0 rfl (by simp) hS0 (Below.refl _ _) (by simp) (by simp) (by simp)
  intro n
  induction n with
  | zero =>
    intro rem done f w hn hp hSw hb hRd hbl hap
    have hr : rem = [] := List.length_eq_zero_iff.1 hn
    subst hr
    simp only [List.nil_append] at hp
    have e1 : setAll done l = setAll J l := hp.foldr_eq' (fun x _ y _ z => Classical.byCases (fun h : x.i = y.i => by rw [h]) (fun h => by rw [Array.setIfInBounds_comm _ _ h])) _
    have e2 : putAll f done a = putAll f J a := hp.foldr_eq' (fun x hx y hy z => by
      by_cases h : x.i = y.i
      · rw [hinj x (hp.mem_iff.1 hx) y (hp.mem_iff.1 hy) h]
      · have h2 := ((hjs x (hp.mem_iff.1 hx)).2 y (hp.mem_iff.1 hy)).1
        have h3 : y.d ≠ x.d := by
          rcases h2 with h2 | h2
          · exact absurd h2.symm h
          · simpa using h2
        exact Act.put_comm _ _ _ (fun q hq hq2 => by cases hq; exact h3 (Option.some.inj hq2))) _
    rw [e1, e2, Nat.zero_add]
    exact hend f w hSw hb (fun j hj => hRd j (hp.mem_iff.2 hj)) (fun j hj => hbl j (hp.mem_iff.2 hj)) (fun j hj k hk => hap j (hp.mem_iff.2 hj) k (hp.mem_iff.2 hk))
  | succ n ih =>
    intro rem done f w hn hp hSw hb hRd hbl hap
    have hdJ : ∀ j ∈ done, j ∈ J := fun j hj => hp.mem_iff.1 (by simp [hj])
    have hrJ : ∀ j ∈ rem, j ∈ J := fun j hj => hp.mem_iff.1 (by simp [hj])
    have hndp : ((rem ++ done).map (·.i)).Nodup := (hp.map _).nodup_iff.2 hnd'
    have hsep : ∀ j ∈ rem, ∀ k ∈ done, k.i ≠ j.i := by
      rw [List.map_append, List.nodup_append] at hndp
      intro j hj k hk h
      exact hndp.2.2 j.i (List.mem_map_of_mem hj) k.i (List.mem_map_of_mem hk) h.symm
    have hun : ∀ j ∈ rem, (setAll done l).getD j.i true = false := fun j hj => by
      rw [setAll_get l j.i true done (hsep j hj)]
      exact (hjs j (hrJ j hj)).1.1
    obtain ⟨j0, hj0⟩ : ∃ j, j ∈ rem := by
      cases rem with
      | nil => simp at hn
      | cons j r => exact ⟨j, by simp⟩
    rw [show n + 1 + fuel = (n + fuel) + 1 by omega]
    refine ⟨fun h => absurd h (topo_ready J l htopo _ (fun i hi => setAll_mono l i hi done) (fun j hj => by rw [setAll_size]; exact (hjs j hj).1.2) ⟨j0, hrJ j0 hj0, hun j0 hj0⟩), fun i hi => ?_⟩
    obtain ⟨hiun, o, ho, hall⟩ := mem_ready.1 hi
    obtain ⟨j, hj, rfl⟩ : ∃ j ∈ rem, j.i = i := by
      rcases hrest i (Array.getElem?_eq_some_iff.1 ho).1 with h | h
      · rcases h with h | h
        · exfalso
          by_cases hd : ∃ k ∈ done, k.i = i
          · obtain ⟨k, hk, rfl⟩ := hd
            rw [setAll_mem l true done (fun j hj => (hjs j (hdJ j hj)).1.2) k hk] at hiun
            cases hiun
          · rw [setAll_get l i true done (fun k hk h => hd ⟨k, hk, h⟩)] at hiun
            rw [hiun] at h
            cases h
        · obtain ⟨k, hk, hki⟩ := List.any_eq_true.1 h
          have hki' : k.i = i := by simpa using hki
          rcases List.mem_append.1 (hp.mem_iff.2 hk) with h1 | h1
          · exact ⟨k, h1, hki'⟩
          · exfalso
            rw [← hki', setAll_mem l true done (fun j hj => (hjs j (hdJ j hj)).1.2) k h1] at hiun
            cases hiun
      · exfalso
        have h1 := h j0 (hrJ j0 hj0)
        rw [ho] at h1
        obtain ⟨e, he, hb2⟩ := Array.any_eq_true'.1 h1
        simp only [Bool.and_eq_true, beq_iff_eq] at hb2
        have h2 := hall e he hb2.1
        have hlt : j0.i < (setAll done l).size := by rw [setAll_size]; exact (hjs j0 (hrJ j0 hj0)).1.2
        rw [hb2.2, ← getD_true_false hlt, hun j0 hj0] at h2
        cases h2
    have hjJ := hrJ j hj
    have hdst : o.dst = some j.d := by
      clear ih hend hjob
      have : ∀ (J : List Job) (l : Array Bool), topo md ops l J = true → ∀ j ∈ J, ∀ o, ops[j.i]? = some o → o.dst = some j.d := by
        intro J
        induction J with
        | nil => intro _ _ j hj; cases hj
        | cons k J ih2 =>
          intro l ht j hj o ho
          unfold topo at ht
          rw [Bool.and_eq_true] at ht
          rcases List.mem_cons.1 hj with rfl | hj
          · have h1 := ht.1
            rw [ho] at h1
            simp only [Bool.and_eq_true, beq_iff_eq] at h1
            exact h1.1
          · exact ih2 _ ht.2 j hj o ho
      exact this J l htopo j hjJ o ho
    have hlook : ∀ k ∈ J, k.d ∉ o.looksAt ops := fun k hk h => by
      have h1 := ((hjs j hjJ).2 k hk).2
      rw [ho] at h1
      simp [h] at h1
    have hne : ∀ k ∈ done, k.d ≠ j.d := fun k hk => by
      rcases ((hjs j hjJ).2 k (hdJ k hk)).1 with h1 | h1
      · exact absurd h1 (hsep j hj k hk)
      · simpa using h1
    refine wpOp_putAll ho (fun cs b => Region.noSelect_spec hns j.i o cs b ho) hdst hQ f a done _ (fun k hk => hlook k (hdJ k hk)) hne ?_
    refine hjob j hjJ w _ hSw fun v w' hv hbw hbv => ?_
    have hf : ∀ k ∈ done, f k.i = updJ f j.i v k.i := fun k hk => (updJ_ne f j.i v k.i (hsep j hj k hk)).symm
    have hvj : updJ f j.i v j.i = v := updJ_self f j.i v
    rw [putAll_put f j.d v a done hne, putAll_same (g := updJ f j.i v) a done hf, show ((putAll (updJ f j.i v) done a).put (some j.d) v) = putAll (updJ f j.i v) (j :: done) a from by
      show _ = (putAll (updJ f j.i v) done a).put (some j.d) (updJ f j.i v j.i)
      rw [hvj]]
    have hb2 : Below w0.heap.size w0 w' := hb.trans (hbw.mono hb.size)
    have hsz := hbw.size
    have hsz0 := hb.size
    refine ⟨fun _ => hS w w' hSw hbw, ih (rem.erase j) (j :: done) _ w' (by rw [List.length_erase_of_mem hj, hn]; rfl) ?_ (hS w w' hSw hbw) hb2 ?_ ?_ ?_⟩
    · refine List.Perm.trans ?_ hp
      have h1 : (rem.erase j ++ j :: done).Perm (j :: (rem.erase j ++ done)) := List.perm_middle
      exact h1.trans ((List.perm_cons_erase hj).symm.append_right done)
    · intro k hk
      rcases List.mem_cons.1 hk with rfl | hk
      · rw [hvj]; exact hv
      · rw [← hf k hk]; exact hR k (hdJ k hk) _ _ _ (hRd k hk) hbw
    · intro k hk g hg
      rcases List.mem_cons.1 hk with rfl | hk
      · rw [hvj] at hg
        have := hbv g hg
        exact ⟨by omega, this.2⟩
      · rw [← hf k hk] at hg
        have := hbl k hk g hg
        exact ⟨this.1, by omega⟩
    · intro k hk m hm hkm
      rcases List.mem_cons.1 hk with h1 | h1 <;> rcases List.mem_cons.1 hm with h2 | h2
      · exact absurd (by rw [h1, h2]) hkm
      · rw [h1, hvj, ← hf m h2]
        intro g h3 h4
        have := hbv g h3; have := hbl m h2 g h4
        omega
      · rw [h2, hvj, ← hf k h1]
        intro g h3 h4
        have := hbv g h4; have := hbl k h1 g h3
        omega
      · rw [← hf m h2, ← hf k h1]
        exact hap k h1 m h2 hkm

/-- An allocation is a job. -/
theorem job_alloc {S : World → Prop} {j : Job} (t : TypeId) (cs : Array Value) (a : Act) (o : Oper) (ho : ops.toList[j.i]? = some o) (hg : o.guard = none) (hd : o.dst = some j.d)
    (hrun : ∀ W, (execOp a.eval o).run P W = .ok (.value (.pointer (some ⟨W.heap.size, 0, none⟩))) (W.alloc (.cells cs t))) :
    JobAt P ops Q S a j (fun v w => ∃ g, v = .pointer (some ⟨g, 0, none⟩) ∧ Blk w g t cs) := by
  intro w K _ hK
  unfold wpOp
  rw [← Array.getElem?_toList, ho]
  have hw : Region.wanted o (yielded ops a.tmps) = true := by simp [Region.wanted, hg]
  simp only [hw, if_true]
  left
  unfold Oper.wp
  rw [hrun w]
  simp only [Oper.upon, hd]
  refine hK _ _ ⟨_, rfl, Blk.new w t cs⟩ ((Below.refl _ _).alloc (Nat.le_refl _) _) ?_
  intro g hg
  simp only [blockOf, Option.some.injEq] at hg
  subst hg
  exact ⟨Nat.le_refl _, by rw [size_alloc]; omega⟩
theorem Blk.below' {w w' : World} {g : Nat} {t : TypeId} {cs : Array Value} (h : Blk w g t cs) (hb : Below w.heap.size w w') : Blk w' g t cs := h.below hb h.lt
end


end Go.Proofs.Ytnahjmladhbmpaa
