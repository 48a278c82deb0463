/- Jobs of a drawn region, each with its own word: two to six of them. A region that keeps the text's order, walked operation by operation, by the same laws as one that draws it. Jobs of a drawn region that may look at what earlier ones gave: one way through them all. A whole row that is read in a region that draws its order: a take under a fact on the memory. What memory holds, as a list of facts that stand over what the program does elsewhere; contracts by value; what a walk that a program prints needs. A region that draws its order, under a fact on the memory that stands throughout. -/
import Derived.Test.YtpihgljdbpnehaaDoorLa0Lg
import Derived.Laws.StructEq
import Derived.StillTail
import Derived.Deep.Cut
import Derived.Deep.MidRow
namespace Go.Proofs.YtpihgljdbpnehaaDoor
open Go.RowKit
section
variable {P : Program} {md : Region.Mode} {ops : Array Oper} {Q : Exit → Act → World → Prop}
/-- A copy, as an operation read first. -/
theorem yieldsIf_move {S : World → Prop} {o : Oper} {a : Act} (hgd : Region.wanted o (yielded ops a.tmps) = true) (x : Operand) (ho : o.op = .move x) (v : Value) (hx : a.eval x = v) : YieldsIf P ops S o v a :=
  Or.inl ⟨hgd, fun w _ => by simp only [execOp, ho, hx, Sem.run_pure]⟩
/-- A pick, as an operation read first. -/
theorem yieldsIf_pick {S : World → Prop} {o : Oper} {a : Act} (hgd : Region.wanted o (yielded ops a.tmps) = true) (c x y : Operand) (ho : o.op = .pick c x y) (b : Bool) (hc : a.eval c = .bool b) (v : Value) (hv : a.eval (if b then x else y) = v) : YieldsIf P ops S o v a := by
  refine Or.inl ⟨hgd, fun w _ => ?_⟩
  simp only [execOp, ho, hc, asBool, Sem.run_bind, Sem.run_pure, Result.andThen_ok]
  subst hv
  cases b <;> rfl
end
end Go.Proofs.YtpihgljdbpnehaaDoor
namespace Go.Proofs.YtpihgljdbpnehaaDoor
open Go.RowKit
theorem AP : (∀ (a : Act) (t : Tmp) (v : Value), a.put (some t) v = { a with tmps := a.tmps.setIfInBounds t v }) ∧ (∀ (l : List Value) (i : Nat) (v : Value), l.toArray.setIfInBounds i v = (l.set i v).toArray) ∧ (∀ (x : Value) (l : List Value) (v : Value), (x :: l).set 0 v = v :: l) ∧ ∀ (x : Value) (l : List Value) (n : Nat) (v : Value), (x :: l).set (n + 1) v = x :: l.set n v :=
  ⟨fun _ _ _ => rfl, fun l i v => List.setIfInBounds_toArray l i v, fun _ _ _ => rfl, fun _ _ _ _ => rfl⟩
section
variable {P : Program} {md : Region.Mode} {ops : Array Oper} {Q : Exit → Act → World → Prop}
def wpSeqD (P : Program) (ops : Array Oper) (Q : Exit → Act → World → Prop) : List Oper → Act → World → Prop
  | [], a, w => Q .normal a w
  | o :: rest, a, w =>
    if Region.wanted o (yielded ops a.tmps) then o.wp P a w (wpSeqD P ops Q rest) Q ∨ (o.asks P a w ∧ LetsOut Q) else wpSeqD P ops Q rest (a.put o.dst undef) w
/-- Sealed, so that nobody works it out to see whether it is a 'for all'. -/
structure wpSeq (P : Program) (ops : Array Oper) (Q : Exit → Act → World → Prop) (l : List Oper) (a : Act) (w : World) : Prop where
  out : wpSeqD P ops Q l a w
theorem wpList_of_seq : ∀ (l : List Oper) (a : Act) (w : World), wpSeqD P ops Q l a w → wpList P ops Q l a w
  | [], _, _, h => h
  | o :: rest, a, w, h => by
    unfold wpSeqD at h
    unfold wpList
    split
    · rename_i hw
      rw [if_pos hw] at h
      exact h.imp (Oper.wp_mono fun a' w' h' => wpList_of_seq rest a' w' h') id
    · rename_i hw
      rw [if_neg hw] at h
      exact wpList_of_seq rest _ _ h
theorem wp_region_seq {id : Nat} {l : List Oper} {a : Act} {w : World} (h : wpSeq P l.toArray Q l a w) : (Code.region id l.toArray false).wp P Q a w :=
  wp_region_list (wpList_of_seq _ _ _ h.out)
theorem wpSeq_yield {S : World → Prop} {o : Oper} {rest : List Oper} {v : Value} {a : Act} {w : World} (hy : YieldsIf P ops S o v a) (hS : S w) (h : wpSeq P ops Q rest (a.put o.dst v) w) : wpSeq P ops Q (o :: rest) a w := by
  constructor
  unfold wpSeqD
  rcases hy with ⟨hw, hv⟩ | ⟨hw, rfl⟩
  · rw [if_pos hw]
    left
    unfold Oper.wp
    rw [hv w hS]
    exact h.out
  · rw [if_neg (by rw [hw]; decide)]
    exact h.out
theorem wpSeq_wp {o : Oper} {rest : List Oper} {a : Act} {w : World} (hw : Region.wanted o (yielded ops a.tmps) = true) (h : o.wp P a w (wpSeq P ops Q rest) Q) : wpSeq P ops Q (o :: rest) a w := by
  constructor
  unfold wpSeqD
  rw [if_pos hw]
  exact Or.inl (Oper.wp_mono (fun _ _ h' => h'.out) h)
theorem wpSeq_nil {a : Act} {w : World} (h : Q .normal a w) : wpSeq P ops Q [] a w := ⟨h⟩
theorem wpSeq_store_row {o : Oper} {rest : List Oper} {a : Act} {w : World} (hgd : o.guard = none)
    (ty : TypeId) (x y : Operand) (ho : o.op = .store ty x y) (g : Nat) (cells : Array Value) (hx : a.eval x = .pointer (some ⟨g, 0, none⟩)) (hy : a.eval y = .agg cells)
    (t : TypeId) (old : Array Value) (hg : Blk w g t old) (hinf : (P.info? ty).map (·.size) = some cells.size) (hold : old.size = cells.size) (h1 : cells.all (·.oneCell') = true)
    (h : wpSeq P ops Q rest (a.put o.dst undef) (w.setRow g cells)) : wpSeq P ops Q (o :: rest) a w :=
  wpSeq_wp (by simp [Region.wanted, hgd]) (wp_store_row ty x y ho g cells hx hy t old hg hinf hold h1 h)
theorem wpSeq_alloc {o : Oper} {rest : List Oper} {a : Act} {w : World} (t : TypeId) (cs : Array Value) (hw : Region.wanted o (yielded ops a.tmps) = true)
    (hrun : ∀ W, (execOp a.eval o).run P W = .ok (.value (.pointer (some ⟨W.heap.size, 0, none⟩))) (W.alloc (.cells cs t)))
    (h : wpSeq P ops Q rest (a.put o.dst (.pointer (some ⟨w.heap.size, 0, none⟩))) (w.alloc (.cells cs t))) : wpSeq P ops Q (o :: rest) a w := by
  refine wpSeq_wp hw ?_
  unfold Oper.wp
  rw [hrun w]
  exact h
/-- An operation that is guarded off is taken first. -/
theorem yieldsIf_off {S : World → Prop} {o : Oper} {a : Act} (hgd : Region.wanted o (yielded ops a.tmps) = false) : YieldsIf P ops S o undef a := Or.inr ⟨hgd, rfl⟩
theorem yieldsIf_assign {S : World → Prop} {o : Oper} {a : Act} (hgd : Region.wanted o (yielded ops a.tmps) = true) (x : Operand) (ho : o.op = .assign x) (v : Value) (hx : a.eval x = v) : YieldsIf P ops S o v a :=
  Or.inl ⟨hgd, fun w _ => by simp only [execOp, ho, hx, Sem.run_pure]⟩
end
end Go.Proofs.YtpihgljdbpnehaaDoor
namespace Go.Proofs.YtpihgljdbpnehaaDoor
open Go.RowKit
/-- What a job gives: just a value, or one that meets a word. -/
inductive Spec where
  | is (v : Value)
  | rel (R : Value → World → Prop)
def Spec.holds : Spec → Value → World → Prop
  | .is u, v, _ => v = u
  | .rel R, v, w => R v w
def Spec.val : Spec → Value
  | .is u => u
  | .rel _ => undef
def Spec.fixed : Spec → Bool
  | .is _ => true
  | .rel _ => false
section
variable {P : Program} {md : Region.Mode} {ops : Array Oper} {Q : Exit → Act → World → Prop}
/-- The jobs whose slot a job looks at. -/
def predsOf (ops : Array Oper) (J : List Job) (j : Job) : List Job :=
  match ops[j.i]? with
  | some o => J.filter fun k => (o.looksAt ops).contains k.d
  | none => []
def edgeOn (md : Region.Mode) (ops : Array Oper) (k j : Nat) : Bool := match ops[k]? with | some o => o.after.any (fun e => Region.binds md e && e.on == j) | none => true
/-- Operation k waits for j, or for a job that does. -/
def reachJ (md : Region.Mode) (ops : Array Oper) (J : List Job) : Nat → Nat → Nat → Bool
  | 0, k, j => edgeOn md ops k j
  | n + 1, k, j => edgeOn md ops k j || J.any fun q => edgeOn md ops k q.i && reachJ md ops J n q.i j
theorem reachJ_spec {J done : List Job} {L : Array Bool} (hd : ∀ q ∈ J, L.getD q.i false = true → q ∈ done) (hcl : ∀ q ∈ done, ∀ o, ops[q.i]? = some o → ∀ e ∈ o.after, Region.binds md e = true → L.getD e.on false = true) (hops : ∀ q ∈ J, ∃ o, ops[q.i]? = some o) :
    ∀ (n k j : Nat) (o : Oper), ops[k]? = some o → (∀ e ∈ o.after, Region.binds md e = true → L.getD e.on false = true) → reachJ md ops J n k j = true → L.getD j false = true := by
  have hedge : ∀ (k j : Nat) (o : Oper), ops[k]? = some o → (∀ e ∈ o.after, Region.binds md e = true → L.getD e.on false = true) → edgeOn md ops k j = true → L.getD j false = true := by
    intro k j o ho hall h
    unfold edgeOn at h
    rw [ho] at h
    obtain ⟨e, he, hb⟩ := Array.any_eq_true'.1 h
    simp only [Bool.and_eq_true, beq_iff_eq] at hb
    rw [← hb.2]
    exact hall e he hb.1
  intro n
  induction n with
  | zero => intro k j o ho hall h; exact hedge k j o ho hall h
  | succ n ih =>
    intro k j o ho hall h
    unfold reachJ at h
    rw [Bool.or_eq_true] at h
    rcases h with h | h
    · exact hedge k j o ho hall h
    · obtain ⟨q, hq, h1⟩ := List.any_eq_true.1 h
      rw [Bool.and_eq_true] at h1
      have hql := hedge k q.i o ho hall h1.1
      obtain ⟨oq, hoq⟩ := hops q hq
      exact ih q.i j oq hoq (hcl q (hd q hq hql) oq hoq) h1.2
def jobsOkD (md : Region.Mode) (ops : Array Oper) (l : Array Bool) (J : List Job) (fixed late : Nat → Bool) (z : Nat) : Bool :=
  Region.noSelect ops && topo md ops l J &&
  (J.all fun j => !l.getD j.i true && decide (j.i < l.size) && J.all fun k => (k.i == j.i || !(k.d == j.d)) &&
    (match ops[j.i]? with | some o => !(o.looksAt ops).contains k.d || (fixed k.i && k.i != j.i && o.after.any fun e => Region.binds md e && e.on == k.i) | none => false)) &&
  ((List.range ops.size).all fun k => l.getD k true || J.any (fun j => j.i == k) || (match ops[k]? with | some o => o.after.any (fun e => Region.binds md e && !l.getD e.on true && !J.any (fun j => j.i == e.on)) | none => false) || J.all fun j => late j.i || reachJ md ops J J.length k j.i) &&
  decide ((J.map (·.i)).Nodup) &&
  (J.all fun j => !late j.i || (fixed j.i && Region.waitsFor md ops z j.i && j.i != z && !l.getD z true && Region.free md ops (setAll (J.filter fun k => !late k.i) l) j.i)) && J.all fun j => j.i != z
theorem putAll_perm {f : Nat → Value} {a : Act} {J J' : List Job} (hp : J.Perm J') (hd : ∀ x ∈ J, ∀ y ∈ J, x = y ∨ x.d ≠ y.d) : putAll f J a = putAll f J' a :=
  hp.foldr_eq' (fun x hx y hy z => by
    rcases hd x hx y hy with h | h
    · rw [h]
    · exact Act.put_comm _ _ _ (fun q hq hq2 => by cases hq; exact h.symm (Option.some.inj hq2))) _
theorem putAll_append {f : Nat → Value} {a : Act} (J J' : List Job) : putAll f (J ++ J') a = putAll f J (putAll f J' a) := by
  unfold putAll
  rw [List.foldr_append]
theorem topo_dst : ∀ (J : List Job) (l : Array Bool), topo md ops l J = true → ∀ j ∈ J, ∀ o, ops[j.i]? = some o → o.dst = some j.d := by
  intro J
  induction J with
  | nil => intro _ _ j hj; cases hj
  | cons k J ih2 =>
    intro l ht j hj o ho
    unfold topo at ht
    rw [Bool.and_eq_true] at ht
    rcases List.mem_cons.1 hj with rfl | hj
    · have h1 := ht.1
      rw [ho] at h1
      simp only [Bool.and_eq_true, beq_iff_eq] at h1
      exact h1.1
    · exact ih2 _ ht.2 j hj o ho
theorem topo_some : ∀ (J : List Job) (l : Array Bool), topo md ops l J = true → ∀ j ∈ J, ∃ o, ops[j.i]? = some o := by
  intro J
  induction J with
  | nil => intro _ _ j hj; cases hj
  | cons k J ih2 =>
    intro l ht j hj
    unfold topo at ht
    rw [Bool.and_eq_true] at ht
    rcases List.mem_cons.1 hj with rfl | hj
    · cases ho : ops[j.i]? with
      | none => rw [ho] at ht; simp at ht
      | some o => exact ⟨o, rfl⟩
    · exact ih2 _ ht.2 j hj
def specOf : List (Job × Spec) → Nat → Spec
  | [], _ => .is undef
  | p :: L, i => if p.1.i = i then p.2 else specOf L i
end
end Go.Proofs.YtpihgljdbpnehaaDoor
namespace Go.Proofs.YtpihgljdbpnehaaDoor
open Go.RowKit
/-- The same, of an operation behind a guard that holds. -/
theorem yieldsIf_row_wanted {P : Program} {ops : Array Oper} {S : World → Prop} {o : Oper} {a : Act} (hgd : Region.wanted o (yielded ops a.tmps) = true) (ty : TypeId) (x : Operand) (ho : o.op = .load ty x) (g : Nat) (hx : a.eval x = .pointer (some ⟨g, 0, none⟩))
    (t : TypeId) (cs : Array Value) (d : TypeDesc) (hS : ∀ w, S w → Blk w g t cs) (hu : P.underlying ty = some d) (hd : (match d with | .struct _ | .array _ _ => true | _ => false) = true) (hi : (P.info? ty).map (·.size) = some cs.size) :
    YieldsIf P ops S o (.agg cs) a := by
  refine Or.inl ⟨hgd, fun w hw => ?_⟩
  simp only [execOp, ho, hx, Instr.loadAt, Instr.sureAddr, Sem.run_bind, Sem.run_pure, Result.andThen_ok, run_loadVar_row w g t ty cs (0, 0) d (hS w hw) hu hd hi]
end Go.Proofs.YtpihgljdbpnehaaDoor
namespace Go.Proofs.YtpihgljdbpnehaaDoor
open Go.RowKit
/-- Cells that stand in a block, whatever its type: a package's variable. -/
structure Rng (w : World) (g : Nat) (cs : Array Value) : Prop where
  blk : g < w.heap.size
  there : w.rangeAt g 0 cs.toList
theorem Rng.below {w w1 : World} {g : Nat} {cs : Array Value} (h : Rng w g cs) (hb : Below w.heap.size w w1) : Rng w1 g cs :=
  ⟨Nat.lt_of_lt_of_le h.blk hb.size, fun j v hv => (hb.cell (p := ⟨g, 0 + j, none⟩) h.blk).trans (h.there j v hv)⟩
inductive Fact where
  | blk (g : Nat) (t : TypeId) (cs : Array Value)
  | rng (g : Nat) (cs : Array Value)
  | bel (w0 : World)
def Fact.at : Fact → World → Prop
  | .blk g t cs, w => Blk w g t cs
  | .rng g cs, w => Rng w g cs
  | .bel w0, w => Below w0.heap.size w0 w
def Facts (L : List Fact) (w : World) : Prop := ∀ f ∈ L, f.at w
theorem Fact.at.below {f : Fact} {w w1 : World} (h : f.at w) (hb : Below w.heap.size w w1) : f.at w1 := by
  cases f with
  | blk g t cs => exact Blk.below' h hb
  | rng g cs => exact Rng.below h hb
  | bel w0 => exact Below.trans h (hb.mono (Below.size h))
theorem Facts.below {L : List Fact} {w w1 : World} (h : Facts L w) (hb : Below w.heap.size w w1) : Facts L w1 := fun f hf => (h f hf).below hb
theorem Facts.drew {L : List Fact} {w : World} (h : Facts L w) : Facts L w.drew := h.below (below_drew (Below.refl _ _))
theorem Facts.nil {w : World} : Facts [] w := fun _ h => by cases h
theorem Facts.cons {f : Fact} {L : List Fact} {w : World} (h : f.at w) (hl : Facts L w) : Facts (f :: L) w := fun x hx => by
  rcases List.mem_cons.1 hx with rfl | hx
  · exact h
  · exact hl x hx
end Go.Proofs.YtpihgljdbpnehaaDoor
namespace Go.Proofs.YtpihgljdbpnehaaDoor
open Go.RowKit
section
variable {P : Program} {md : Region.Mode} {ops : Array Oper} {Q : Exit → Act → World → Prop} {S : World → Prop}
def wpAnyS (P : Program) (md : Region.Mode) (ops : Array Oper) (Q : Exit → Act → World → Prop) (S : World → Prop) : Nat → Array Bool → Act → World → Prop
  | 0, listed, a, w => Region.ready md ops listed = [] ∧ Q .normal a w
  | fuel + 1, listed, a, w =>
    (Region.ready md ops listed = [] → Q .normal a w) ∧
    ∀ i ∈ Region.ready md ops listed, wpOp P ops Q i (fun a' w' => S w' ∧ wpAnyS P md ops Q S fuel (listed.setIfInBounds i true) a' w') a w
theorem wpAny_of_S : ∀ (fuel : Nat) (listed : Array Bool) (a : Act) (w : World), wpAnyS P md ops Q S fuel listed a w → wpAny P md ops Q fuel listed a w
  | 0, _, _, _, h => h
  | fuel + 1, _, _, _, h => ⟨h.1, fun i hi => wpOp_mono (fun a' w' h' => wpAny_of_S fuel _ a' w' h'.2) (h.2 i hi)⟩
theorem wpAnyS_first {i : Nat} {oi : Oper} {v : Value} (hi : ops[i]? = some oi) (hsel : ∀ (j : Nat) (o : Oper) cs b, ops[j]? = some o → o.op ≠ .select cs b)
    (hQ : ∀ c a w, Q (.panic c) (a.put oi.dst v) w → Q (.panic c) a w) :
    ∀ (fuel : Nat) (listed : Array Bool) (a : Act) (w : World),
      (∀ j oj, ops[j]? = some oj → j ≠ i → listed.getD j true = false → (∀ e ∈ oj.after, Region.binds md e = true → e.on ≠ i) → oi.apart ops oj = true) →
      i ∈ Region.ready md ops listed → YieldsIf P ops S oi v a → S w →
      wpAnyS P md ops Q S fuel (listed.setIfInBounds i true) (a.put oi.dst v) w → wpAnyS P md ops Q S (fuel + 1) listed a w := by
  intro fuel
  induction fuel with
  | zero =>
    intro listed a w _ hr hy hS H
    refine ⟨fun h => (by rw [h] at hr; cases hr), fun j hj => ?_⟩
    by_cases hji : j = i
    · subst hji; exact hy.wpOp hi hS ⟨hS, H⟩
    · have := ready_mono hj hji
      rw [H.1] at this
      cases this
  | succ fuel ih =>
    intro listed a w hfree hr hy hS H
    refine ⟨fun h => (by rw [h] at hr; cases hr), fun j hj => ?_⟩
    by_cases hji : j = i
    · subst hji; exact hy.wpOp hi hS ⟨hS, H⟩
    · have h1 := H.2 j (ready_mono hj hji)
      obtain ⟨hjun, oj, hoj, hall⟩ := mem_ready.1 hj
      have hnot : ∀ e ∈ oj.after, Region.binds md e = true → e.on ≠ i := fun e he hb heq => by
        have h1 := hall e he hb
        have h0 := (mem_ready.1 hr).1
        rw [heq] at h1
        rcases Nat.lt_or_ge i listed.size with h' | h'
        · simp [h'] at h0 h1; rw [h0] at h1; cases h1
        · simp [Array.getElem?_eq_none h'] at h1
      have h2 := wpOp_putIf hoj (hfree j oj hoj hji hjun hnot) (fun cs b => hsel i oi cs b hi) (fun cs b => hsel j oj cs b hoj) hQ hy h1
      have hfree' : ∀ k ok, ops[k]? = some ok → k ≠ i → (listed.setIfInBounds j true).getD k true = false →
          (∀ e ∈ ok.after, Region.binds md e = true → e.on ≠ i) → oi.apart ops ok = true := fun k ok hk hki hun hno => by
        refine hfree k ok hk hki ?_ hno
        by_cases hjk : j = k
        · subst hjk; exact hjun
        · rw [getD_set_ne true hjk] at hun; exact hun
      refine wpOp_mono (fun a' w' h3 => ⟨h3.2.1, ih (listed.setIfInBounds j true) a' w' hfree' (ready_mono hr (Ne.symm hji)) h3.1 h3.2.1 ?_⟩) h2
      rw [Array.setIfInBounds_comm _ _ hji]
      exact h3.2.2
theorem wpAnyS_takeL (i : Nat) {oi : Oper} {v : Value} {fuel : Nat} {listed : Array Bool} {a : Act} {w : World} (hi : ops.toList[i]? = some oi)
    (hs : Region.noSelect ops = true) (hf : Region.free md ops listed i = true) (hr : (Region.ready md ops listed).contains i = true)
    (hQ : ∀ c a w, Q (.panic c) (a.put oi.dst v) w → Q (.panic c) a w) (hy : YieldsIf P ops S oi v a) (hS : S w)
    (h : wpAnyS P md ops Q S fuel (listed.setIfInBounds i true) (a.put oi.dst v) w) : wpAnyS P md ops Q S (fuel + 1) listed a w :=
  wpAnyS_first (by rw [← hi, Array.getElem?_toList]) (Region.noSelect_spec hs) hQ fuel listed a w (Region.free_spec (by rw [← hi, Array.getElem?_toList]) hf) (by simpa using hr) hy hS h
theorem wpAnyS_one {i : Nat} {fuel : Nat} {listed : Array Bool} {a : Act} {w : World} (hr : Region.ready md ops listed = [i])
    (h : wpOp P ops Q i (fun a' w' => S w' ∧ wpAnyS P md ops Q S fuel (listed.setIfInBounds i true) a' w') a w) : wpAnyS P md ops Q S (fuel + 1) listed a w := by
  refine ⟨fun h0 => ?_, fun j hj => ?_⟩
  · rw [hr] at h0
    cases h0
  · rw [hr, List.mem_singleton] at hj
    subst hj
    exact h
theorem wpAnyS_done {listed : Array Bool} {a : Act} {w : World} (hr : Region.ready md ops listed = []) (h : Q .normal a w) : ∀ fuel, wpAnyS P md ops Q S fuel listed a w
  | 0 => ⟨hr, h⟩
  | _ + 1 => ⟨fun _ => h, by rw [hr]; simp⟩
theorem wp_region_S {id : Nat} {a : Act} {w : World} (hm : P.follows .mixedOrders = true)
    (h : wpAnyS P .any ops Q S ops.size (Array.replicate ops.size false) a w.drew) : (Code.region id ops true).wp P Q a w :=
  wp_region_any hm (wpAny_of_S _ _ _ _ h)
end
end Go.Proofs.YtpihgljdbpnehaaDoor
