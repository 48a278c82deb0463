/- Calls and allocations that come up in any order, in a region that draws its order: one way through them all. Jobs of a drawn region, each with its own word: two to six of them. A region that keeps the text's order, walked operation by operation, by the same laws as one that draws it. The reference's numbers as values: contracts by value. -/
import Derived.Test.YtegbnadnodlalaaGreatDoorGFk0GRb
import Derived.Laws.StructEq
import Derived.Test.YtegbnadnodlalaaGreatDoorGRc0Lf
namespace Go.Proofs.YtegbnadnodlalaaGreatDoor
open Go.RowKit
section
variable {P : Program} {md : Region.Mode} {ops : Array Oper} {Q : Exit → Act → World → Prop}
/-- The block that a pointer leads to. -/
def blockOf : Value → Option Nat
 | .pointer (some a) => some a.block
 | _ => none
/-- Two values lead to different blocks, if to any. -/
def ApartV (u v : Value) : Prop := ∀ g, blockOf u = some g → blockOf v = some g → False
theorem ApartV.symm {u v : Value} (h : ApartV u v) : ApartV v u := fun g a b => h g b a
structure Job where
 i : Nat
 d : Tmp
 deriving DecidableEq
/-- A frame with a slot written that an operation neither looks at nor writes: the operation does the same. -/
theorem wpOp_over {j : Nat} {oj : Oper} (hj : ops[j]? = some oj) (hsj : ∀ cs b, oj.op ≠ .select cs b) {d : Tmp} (hd : d ∉ oj.looksAt ops) (hdd : oj.dst ≠ some d)
  (hQ : ∀ c a d v w, Q (.panic c) a w → Q (.panic c) (a.put (some d) v) w) {K : Act → World → Prop} {a : Act} {w : World} (v : Value)
  (h : wpOp P ops Q j (fun a' w' => K (a'.put (some d) v) w') a w) : wpOp P ops Q j K (a.put (some d) v) w := by
 have h1 : ∀ x, (some d : Option Tmp) = some x → x ∉ oj.looksAt ops := fun x hx => by cases hx; exact hd
 have h2 : ∀ x, (some d : Option Tmp) = some x → oj.dst ≠ some x := fun x hx => by cases hx; exact hdd
 unfold wpOp at *
 simp only [hj] at *
 rw [wanted_put oj a (some d) v h1]
 split
 ·
  rename_i hw
  simp only [hw, if_true] at h
  rcases h with h | ⟨hasks, hlets⟩
  case inr => exact .inr ⟨by unfold Oper.asks at *; rw [execOp_put oj hsj a (some d) v h1]; exact hasks, hlets⟩
  refine .inl ?_
  unfold Oper.wp at *
  rw [execOp_put oj hsj a (some d) v h1]
  generalize (execOp a.eval oj).run P w = r at *
  cases r with
  | ok n w' =>
   cases n <;> simp only [Oper.upon] at h ⊢
   case value u => rw [Act.put_comm a v u h2]; exact h
   case skip => rw [Act.put_comm a v undef h2]; exact h
   case defer e =>
    rw [Act.put_defers, Act.put_comm _ v undef h2]
    exact h
   case enter f args =>
    refine Calls.mono h fun e w'' he => ?_
    cases e with
    | returned u =>
     show K ((a.put (some d) v).put oj.dst u) w''
     rw [Act.put_comm a v u h2]
     exact he
    | panicked c => exact hQ _ _ _ _ _ he
    | outgrown => exact he
   case row row args => exact Rows.mono h fun u w'' he => by rw [Act.put_comm a v u h2]; exact he
  | halt x w' =>
   cases x <;> simp only [Oper.upon] at h ⊢
   case panic u => exact hQ _ _ _ _ _ h
 ·
  rename_i hw
  simp only [hw] at h
  rw [Act.put_comm a v undef h2]
  exact h
/-- Which slots the jobs write: none that a job looks at, no two the same; what else has not come up waits for every job; the jobs are told in an order in which they may come. -/
def topo (md : Region.Mode) (ops : Array Oper) : Array Bool → List Job → Bool
 | _, [] => true
 | l, j :: J => (match ops[j.i]? with
   | some o => o.dst == some j.d && o.after.all fun e => !Region.binds md e || l.getD e.on false
   | none => false) && topo md ops (l.setIfInBounds j.i true) J
theorem getD_set_self {l : Array Bool} {i : Nat} (h : i < l.size) (d : Bool) : (l.setIfInBounds i true).getD i d = true := by simp [h]
theorem getD_true_false {l : Array Bool} {i : Nat} (h : i < l.size) : l.getD i true = l.getD i false := by simp [h]
theorem topo_ready : ∀ (J : List Job) (l0 : Array Bool), topo md ops l0 J = true → ∀ listed : Array Bool, (∀ i, l0.getD i false = true → listed.getD i false = true) → (∀ j ∈ J, j.i < listed.size) →
  (∃ j ∈ J, listed.getD j.i true = false) → Region.ready md ops listed ≠ []
 | [], _, _, _, _, _, ⟨_, h, _⟩ => by cases h
 | j :: J, l0, ht, listed, hsub, hlt, hex => by
  unfold topo at ht
  rw [Bool.and_eq_true] at ht
  by_cases hj : listed.getD j.i true = false
  ·
   intro hnil
   have : j.i ∈ Region.ready md ops listed := by
    rw [mem_ready]
    refine ⟨hj, ?_⟩
    cases ho : ops[j.i]? with
    | none => rw [ho] at ht; simp at ht
    | some o =>
     refine ⟨o, rfl, fun e he hb => hsub _ ?_⟩
     have h1 := ht.1
     rw [ho] at h1
     simp only [Bool.and_eq_true, Array.all_eq_true_iff_forall_mem] at h1
     have h2 := h1.2 e he
     simpa [hb] using h2
   rw [hnil] at this
   cases this
  ·
   have hj' : listed.getD j.i false = true := by
    rw [← getD_true_false (hlt j (by simp))]
    simpa using hj
   refine topo_ready J _ ht.2 listed (fun i hi => ?_) (fun k hk => hlt k (by simp [hk])) ?_
   ·
    by_cases hij : j.i = i
    · subst hij; exact hj'
    · rw [getD_set_ne false hij] at hi; exact hsub i hi
   ·
    obtain ⟨k, hk, hk2⟩ := hex
    rcases List.mem_cons.1 hk with rfl | hk
    · exact absurd hk2 hj
    · exact ⟨k, hk, hk2⟩
def putAll (f : Nat → Value) (J : List Job) (a : Act) : Act := J.foldr (fun j a => a.put (some j.d) (f j.i)) a
def setAll (J : List Job) (l : Array Bool) : Array Bool := J.foldr (fun j l => l.setIfInBounds j.i true) l
theorem setAll_size (l : Array Bool) : ∀ J : List Job, (setAll J l).size = l.size
 | [] => rfl
 | j :: J => by
  show ((setAll J l).setIfInBounds j.i true).size = _
  rw [Array.size_setIfInBounds, setAll_size l J]
theorem setAll_get (l : Array Bool) (i : Nat) (d : Bool) : ∀ J : List Job, (∀ j ∈ J, j.i ≠ i) → (setAll J l).getD i d = l.getD i d
 | [], _ => rfl
 | j :: J, h => by
  show ((setAll J l).setIfInBounds j.i true).getD i d = _
  rw [getD_set_ne d (h j (by simp)), setAll_get l i d J fun k hk => h k (by simp [hk])]
theorem setAll_mem (l : Array Bool) (d : Bool) : ∀ J : List Job, (∀ j ∈ J, j.i < l.size) → ∀ j ∈ J, (setAll J l).getD j.i d = true
 | [], _, _, h => by cases h
 | k :: J, hl, j, hj => by
  show ((setAll J l).setIfInBounds k.i true).getD j.i d = true
  by_cases hkj : k.i = j.i
  ·
   rw [hkj]
   exact getD_set_self (by rw [setAll_size]; exact hl j hj) d
  ·
   rw [getD_set_ne d hkj]
   rcases List.mem_cons.1 hj with rfl | hj
   · exact absurd rfl hkj
   · exact setAll_mem l d J (fun k hk => hl k (by simp [hk])) j hj
theorem setAll_mono (l : Array Bool) (i : Nat) (h : l.getD i false = true) : ∀ J : List Job, (setAll J l).getD i false = true
 | [] => h
 | _ :: J => getD_set_true (setAll_mono l i h J)
theorem putAll_same {f g : Nat → Value} (a : Act) : ∀ J : List Job, (∀ j ∈ J, f j.i = g j.i) → putAll f J a = putAll g J a
 | [], _ => rfl
 | j :: J, h => by
  show (putAll f J a).put (some j.d) (f j.i) = (putAll g J a).put (some j.d) (g j.i)
  rw [h j (by simp), putAll_same a J fun k hk => h k (by simp [hk])]
/-- A job's word: in frame a, in every world that meets S and in which what was there stands. -/
def JobAt (P : Program) (ops : Array Oper) (Q : Exit → Act → World → Prop) (S : World → Prop) (a : Act) (j : Job) (R : Value → World → Prop) : Prop :=
 ∀ (w : World) (K : Act → World → Prop), S w →
  (∀ v w', R v w' → Below w.heap.size w w' → (∀ g, blockOf v = some g → w.heap.size ≤ g ∧ g < w'.heap.size) → K (a.put (some j.d) v) w') → wpOp P ops Q j.i K a w
theorem wpOp_putAll {k : Job} {o : Oper} (ho : ops[k.i]? = some o) (hs : ∀ cs b, o.op ≠ .select cs b) (hd : o.dst = some k.d) (hQ : ∀ c a d v w, Q (.panic c) a w → Q (.panic c) (a.put (some d) v) w) (f : Nat → Value) {w : World} (a : Act) :
  ∀ (J : List Job) (K : Act → World → Prop), (∀ j ∈ J, j.d ∉ o.looksAt ops) → (∀ j ∈ J, j.d ≠ k.d) → wpOp P ops Q k.i (fun a' w' => K (putAll f J a') w') a w → wpOp P ops Q k.i K (putAll f J a) w
 | [], _, _, _, h => h
 | j :: J, K, h1, h2, h => by
  show wpOp P ops Q k.i K ((putAll f J a).put (some j.d) (f j.i)) w
  refine wpOp_over ho hs (h1 j (by simp)) (by rw [hd]; intro h; exact h2 j (by simp) (Option.some.inj h).symm) hQ _ ?_
  exact wpOp_putAll ho hs hd hQ f a J _ (fun i hi => h1 i (by simp [hi])) (fun i hi => h2 i (by simp [hi])) h
theorem putAll_put (f : Nat → Value) (d : Tmp) (v : Value) (a : Act) : ∀ J : List Job, (∀ j ∈ J, j.d ≠ d) → putAll f J (a.put (some d) v) = (putAll f J a).put (some d) v
 | [], _ => rfl
 | j :: J, h => by
  show (putAll f J (a.put (some d) v)).put (some j.d) (f j.i) = ((putAll f J a).put (some j.d) (f j.i)).put (some d) v
  rw [putAll_put f d v a J fun k hk => h k (by simp [hk])]
  exact Act.put_comm _ _ _ (fun x hx hy => by cases hx; exact h j (by simp) (Option.some.inj hy))
def updJ (f : Nat → Value) (i : Nat) (v : Value) (k : Nat) : Value := if k = i then v else f k
theorem updJ_self (f : Nat → Value) (i : Nat) (v : Value) : updJ f i v i = v := by simp [updJ]
theorem updJ_ne (f : Nat → Value) (i : Nat) (v : Value) (k : Nat) (h : k ≠ i) : updJ f i v k = f k := by simp [updJ, h]
theorem pair_ne : ∀ (J : List Job), List.Pairwise (fun a b => a.i ≠ b.i) J → ∀ j ∈ J, ∀ k ∈ J, j ≠ k → j.i ≠ k.i
 | [], _, _, h, _, _, _ => by cases h
 | x :: J, hp, j, hj, k, hk, hne => by
  rw [List.pairwise_cons] at hp
  rcases List.mem_cons.1 hj with h1 | h1 <;> rcases List.mem_cons.1 hk with h2 | h2
  · exact absurd (h1.trans h2.symm) hne
  · exact h1 ▸ hp.1 k h2
  · exact h2 ▸ Ne.symm (hp.1 j h1)
  · exact pair_ne J hp.2 j h1 k h2 hne
/-- An allocation is a job. -/
theorem job_alloc {S : World → Prop} {j : Job} (t : TypeId) (cs : Array Value) (a : Act) (o : Oper) (ho : ops.toList[j.i]? = some o) (hg : o.guard = none) (hd : o.dst = some j.d)
  (hrun : ∀ W, (execOp a.eval o).run P W = .ok (.value (.pointer (some ⟨W.heap.size, 0, none⟩))) (W.alloc (.cells cs t))) :
  JobAt P ops Q S a j (fun v w => ∃ g, v = .pointer (some ⟨g, 0, none⟩) ∧ Blk w g t cs) := by
 intro w K _ hK
 unfold wpOp
 rw [← Array.getElem?_toList, ho]
 have hw : Region.wanted o (yielded ops a.tmps) = true := by simp [Region.wanted, hg]
 simp only [hw, if_true]
 left
 unfold Oper.wp
 rw [hrun w]
 simp only [Oper.upon, hd]
 refine hK _ _ ⟨_, rfl, Blk.new w t cs⟩ ((Below.refl _ _).alloc (Nat.le_refl _) _) ?_
 intro g hg
 simp only [blockOf, Option.some.injEq] at hg
 subst hg
 exact ⟨Nat.le_refl _, by rw [size_alloc]; omega⟩
theorem Blk.below' {w w' : World} {g : Nat} {t : TypeId} {cs : Array Value} (h : Blk w g t cs) (hb : Below w.heap.size w w') : Blk w' g t cs := h.below hb h.lt
end
end Go.Proofs.YtegbnadnodlalaaGreatDoor
namespace Go.Proofs.YtegbnadnodlalaaGreatDoor
open Go.RowKit
section
variable {P : Program} {md : Region.Mode} {ops : Array Oper} {Q : Exit → Act → World → Prop}
/-- A whole row stored, as the one operation that may come up. -/
theorem wpAnyZ_store_row {S : World → Prop} {z fuel : Nat} {listed : Array Bool} {a : Act} {w : World} (i : Nat) {oi : Oper} (hi : ops.toList[i]? = some oi) (hr : Region.ready md ops listed = [i]) (hgd : oi.guard = none)
  (ty : TypeId) (x y : Operand) (ho : oi.op = .store ty x y) (g : Nat) (cells : Array Value) (hx : a.eval x = .pointer (some ⟨g, 0, none⟩)) (hy : a.eval y = .agg cells)
  (t : TypeId) (old : Array Value) (hg : Blk w g t old) (hinf : (P.info? ty).map (·.size) = some cells.size) (hold : old.size = cells.size) (h1 : cells.all (·.oneCell') = true) (hS : S (w.setRow g cells))
  (h : wpAnyZ P md ops Q S z fuel (listed.setIfInBounds i true) (a.put oi.dst undef) (w.setRow g cells)) : wpAnyZ P md ops Q S z (fuel + 1) listed a w := by
 refine wpAnyZ_one hr ?_
 unfold wpOp
 rw [← Array.getElem?_toList, hi]
 have hw : Region.wanted oi (yielded ops a.tmps) = true := by simp [Region.wanted, hgd]
 simp only [hw, if_true]
 left
 exact wp_store_row ty x y ho g cells hx hy t old hg hinf hold h1 ⟨fun _ => hS, h⟩
/-- Two rows held against each other, as an operation read first. -/
theorem yieldsIf_eql {S : World → Prop} {o : Oper} {a : Act} (hgd : Region.wanted o (yielded ops a.tmps) = true) (t u : TypeId) (x y : Operand) (ho : o.op = .binOp .eql t x y u) (xs ys : Array Value) (hx : a.eval x = .agg xs) (hy : a.eval y = .agg ys)
  (hm : P.eqGuardType P.depth t = false) (b : Bool) (hrun : ∀ w, (binOp .eql t (.agg xs) (.agg ys)).run P w = .ok (.bool b) w) : YieldsIf P ops S o (.bool b) a := by
 refine Or.inl ⟨hgd, fun w _ => ?_⟩
 simp only [execOp, ho, hx, hy, Sem.run_bind, Sem.run_pure, Result.andThen_ok, run_eqGuard_agg (hm := hm), hrun]
/-- A copy, as an operation read first. -/
theorem yieldsIf_move {S : World → Prop} {o : Oper} {a : Act} (hgd : Region.wanted o (yielded ops a.tmps) = true) (x : Operand) (ho : o.op = .move x) (v : Value) (hx : a.eval x = v) : YieldsIf P ops S o v a :=
 Or.inl ⟨hgd, fun w _ => by simp only [execOp, ho, hx, Sem.run_pure]⟩
/-- A pick, as an operation read first. -/
theorem yieldsIf_pick {S : World → Prop} {o : Oper} {a : Act} (hgd : Region.wanted o (yielded ops a.tmps) = true) (c x y : Operand) (ho : o.op = .pick c x y) (b : Bool) (hc : a.eval c = .bool b) (v : Value) (hv : a.eval (if b then x else y) = v) : YieldsIf P ops S o v a := by
 refine Or.inl ⟨hgd, fun w _ => ?_⟩
 simp only [execOp, ho, hc, asBool, Sem.run_bind, Sem.run_pure, Result.andThen_ok]
 subst hv
 cases b <;> rfl
end
end Go.Proofs.YtegbnadnodlalaaGreatDoor
namespace Go.Proofs.YtegbnadnodlalaaGreatDoor
open Go.RowKit
theorem AP : (∀ (a : Act) (t : Tmp) (v : Value), a.put (some t) v = { a with tmps := a.tmps.setIfInBounds t v }) ∧ (∀ (l : List Value) (i : Nat) (v : Value), l.toArray.setIfInBounds i v = (l.set i v).toArray) ∧ (∀ (x : Value) (l : List Value) (v : Value), (x :: l).set 0 v = v :: l) ∧ ∀ (x : Value) (l : List Value) (n : Nat) (v : Value), (x :: l).set (n + 1) v = x :: l.set n v :=
 ⟨fun _ _ _ => rfl, fun l i v => List.setIfInBounds_toArray l i v, fun _ _ _ => rfl, fun _ _ _ _ => rfl⟩
section
variable {P : Program} {md : Region.Mode} {ops : Array Oper} {Q : Exit → Act → World → Prop}
def wpSeqD (P : Program) (ops : Array Oper) (Q : Exit → Act → World → Prop) : List Oper → Act → World → Prop
 | [], a, w => Q .normal a w
 | o :: rest, a, w =>
  if Region.wanted o (yielded ops a.tmps) then o.wp P a w (wpSeqD P ops Q rest) Q ∨ (o.asks P a w ∧ LetsOut Q) else wpSeqD P ops Q rest (a.put o.dst undef) w
/-- Sealed, so that nobody works it out to see whether it is a 'for all'. -/
structure wpSeq (P : Program) (ops : Array Oper) (Q : Exit → Act → World → Prop) (l : List Oper) (a : Act) (w : World) : Prop where
 out : wpSeqD P ops Q l a w
theorem wpList_of_seq : ∀ (l : List Oper) (a : Act) (w : World), wpSeqD P ops Q l a w → wpList P ops Q l a w
 | [], _, _, h => h
 | o :: rest, a, w, h => by
  unfold wpSeqD at h
  unfold wpList
  split
  ·
   rename_i hw
   rw [if_pos hw] at h
   exact h.imp (Oper.wp_mono fun a' w' h' => wpList_of_seq rest a' w' h') id
  ·
   rename_i hw
   rw [if_neg hw] at h
   exact wpList_of_seq rest _ _ h
theorem wp_region_seq {id : Nat} {l : List Oper} {a : Act} {w : World} (h : wpSeq P l.toArray Q l a w) : (Code.region id l.toArray false).wp P Q a w :=
 wp_region_list (wpList_of_seq _ _ _ h.out)
theorem wpSeq_yield {S : World → Prop} {o : Oper} {rest : List Oper} {v : Value} {a : Act} {w : World} (hy : YieldsIf P ops S o v a) (hS : S w) (h : wpSeq P ops Q rest (a.put o.dst v) w) : wpSeq P ops Q (o :: rest) a w := by
 constructor
 unfold wpSeqD
 rcases hy with ⟨hw, hv⟩ | ⟨hw, rfl⟩
 ·
  rw [if_pos hw]
  left
  unfold Oper.wp
  rw [hv w hS]
  exact h.out
 ·
  rw [if_neg (by rw [hw]; decide)]
  exact h.out
theorem wpSeq_wp {o : Oper} {rest : List Oper} {a : Act} {w : World} (hw : Region.wanted o (yielded ops a.tmps) = true) (h : o.wp P a w (wpSeq P ops Q rest) Q) : wpSeq P ops Q (o :: rest) a w := by
 constructor
 unfold wpSeqD
 rw [if_pos hw]
 exact Or.inl (Oper.wp_mono (fun _ _ h' => h'.out) h)
theorem wpSeq_nil {a : Act} {w : World} (h : Q .normal a w) : wpSeq P ops Q [] a w := ⟨h⟩
theorem wpSeq_store_row {o : Oper} {rest : List Oper} {a : Act} {w : World} (hgd : o.guard = none)
  (ty : TypeId) (x y : Operand) (ho : o.op = .store ty x y) (g : Nat) (cells : Array Value) (hx : a.eval x = .pointer (some ⟨g, 0, none⟩)) (hy : a.eval y = .agg cells)
  (t : TypeId) (old : Array Value) (hg : Blk w g t old) (hinf : (P.info? ty).map (·.size) = some cells.size) (hold : old.size = cells.size) (h1 : cells.all (·.oneCell') = true)
  (h : wpSeq P ops Q rest (a.put o.dst undef) (w.setRow g cells)) : wpSeq P ops Q (o :: rest) a w :=
 wpSeq_wp (by simp [Region.wanted, hgd]) (wp_store_row ty x y ho g cells hx hy t old hg hinf hold h1 h)
theorem wpSeq_alloc {o : Oper} {rest : List Oper} {a : Act} {w : World} (t : TypeId) (cs : Array Value) (hw : Region.wanted o (yielded ops a.tmps) = true)
  (hrun : ∀ W, (execOp a.eval o).run P W = .ok (.value (.pointer (some ⟨W.heap.size, 0, none⟩))) (W.alloc (.cells cs t)))
  (h : wpSeq P ops Q rest (a.put o.dst (.pointer (some ⟨w.heap.size, 0, none⟩))) (w.alloc (.cells cs t))) : wpSeq P ops Q (o :: rest) a w := by
 refine wpSeq_wp hw ?_
 unfold Oper.wp
 rw [hrun w]
 exact h
/-- An operation that is guarded off is taken first. -/
theorem yieldsIf_off {S : World → Prop} {o : Oper} {a : Act} (hgd : Region.wanted o (yielded ops a.tmps) = false) : YieldsIf P ops S o undef a := Or.inr ⟨hgd, rfl⟩
theorem yieldsIf_assign {S : World → Prop} {o : Oper} {a : Act} (hgd : Region.wanted o (yielded ops a.tmps) = true) (x : Operand) (ho : o.op = .assign x) (v : Value) (hx : a.eval x = v) : YieldsIf P ops S o v a :=
 Or.inl ⟨hgd, fun w _ => by simp only [execOp, ho, hx, Sem.run_pure]⟩
theorem yieldsIf_not {S : World → Prop} {o : Oper} {a : Act} (hgd : Region.wanted o (yielded ops a.tmps) = true) (t : TypeId) (x : Operand) (ho : o.op = .unOp .not t x) (b : Bool) (hx : a.eval x = .bool b) : YieldsIf P ops S o (.bool !b) a :=
 Or.inl ⟨hgd, fun w _ => by simp only [execOp, ho, hx, Op.unary, Sem.run_bind, Sem.run_pure, Result.andThen_ok]⟩
/-- The element of a tuple. -/
theorem yieldsIf_extract {S : World → Prop} {o : Oper} {a : Act} (hgd : Region.wanted o (yielded ops a.tmps) = true) (x : Operand) (i : Nat) (ho : o.op = .extract x i) (vs : Array Value) (hx : a.eval x = .tuple vs) (v : Value) (hv : vs[i]? = some v) : YieldsIf P ops S o v a := by
 refine Or.inl ⟨hgd, fun w _ => ?_⟩
 simp only [execOp, ho, hx, Instr.extract, hv, Sem.run_bind, Sem.run_pure, Result.andThen_ok]
end
section
variable {P : Program} {ops : Array Oper} {Q : Exit → Act → World → Prop} {o : Oper} {rest : List Oper} {x : Operand} {a : Act} {w : World}
theorem smv (v : Value) (hgd : Region.wanted o (yielded ops a.tmps) = true) (ho : o.op = .move x) (hx : a.eval x = v) (h : wpSeq P ops Q rest (a.put o.dst v) w) : wpSeq P ops Q (o :: rest) a w := wpSeq_yield (S := fun _ => True) (yieldsIf_move hgd x ho v hx) trivial h
theorem sas (v : Value) (hgd : Region.wanted o (yielded ops a.tmps) = true) (ho : o.op = .assign x) (hx : a.eval x = v) (h : wpSeq P ops Q rest (a.put o.dst v) w) : wpSeq P ops Q (o :: rest) a w := wpSeq_yield (S := fun _ => True) (yieldsIf_assign hgd x ho v hx) trivial h
theorem svl (v : Value) (hy : YieldsIf P ops (fun _ => True) o v a) (h : wpSeq P ops Q rest (a.put o.dst v) w) : wpSeq P ops Q (o :: rest) a w := wpSeq_yield (S := fun _ => True) hy trivial h
end
end Go.Proofs.YtegbnadnodlalaaGreatDoor
namespace Go.Proofs.YtegbnadnodlalaaGreatDoor
open Go.RowKit
theorem eqg_api_Key : Tryz.prog.eqGuardType Tryz.prog.depth 23 = false := by kernel_rfl
/-- A value that is a long number V. -/
def LongIs (w : World) (v : Value) (V : Nat) : Prop := ∃ g n c f, v = SlV g n c ∧ Sl w g n f ∧ lv f n = V ∧ n ≤ 17
theorem LongIs.below {w w1 : World} {v : Value} {V : Nat} (h : LongIs w v V) (hb : Below w.heap.size w w1) : LongIs w1 v V := by
 obtain ⟨g, n, c, f, h1, h2, h3⟩ := h
 exact ⟨g, n, c, f, h1, h2.below hb, h3⟩
theorem LongIs.drew {w : World} {v : Value} {V : Nat} (h : LongIs w v V) : LongIs w.drew v V := by
 obtain ⟨g, n, c, f, h1, h2, h3⟩ := h
 exact ⟨g, n, c, f, h1, h2.drew, h3⟩
end Go.Proofs.YtegbnadnodlalaaGreatDoor
