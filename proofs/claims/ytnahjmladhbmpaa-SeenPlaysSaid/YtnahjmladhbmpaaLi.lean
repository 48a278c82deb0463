/- A region that keeps the text's order, walked operation by operation, by the same laws as one that draws it. -/
import Derived.Test.YtnahjmladhbmpaaLh
namespace Go.Proofs.Ytnahjmladhbmpaa
open Go.RowKit

theorem AP : (∀ (a : Act) (t : Tmp) (v : Value), a.put (some t) v = { a with tmps := a.tmps.setIfInBounds t v }) ∧ (∀ (l : List Value) (i : Nat) (v : Value), l.toArray.setIfInBounds i v = (l.set i v).toArray) ∧ (∀ (x : Value) (l : List Value) (v : Value), (x :: l).set 0 v = v :: l) ∧ ∀ (x : Value) (l : List Value) (n : Nat) (v : Value), (x :: l).set (n + 1) v = x :: l.set n v :=
  ⟨fun _ _ _ => rfl, fun l i v => List.setIfInBounds_toArray l i v, fun _ _ _ => rfl, fun _ _ _ _ => rfl⟩
section
variable {P : Program} {md : Region.Mode} {ops : Array Oper} {Q : Exit → Act → World → Prop}

def wpSeqD (P : Program) (ops : Array Oper) (Q : Exit → Act → World → Prop) : List Oper → Act → World → Prop
  | [], a, w => Q .normal a w
  | o :: rest, a, w =>
    if Region.wanted o (yielded ops a.tmps) then o.wp P a w (wpSeqD P ops Q rest) Q ∨ (o.asks P a w ∧ LetsOut Q) else wpSeqD P ops Q rest (a.put o.dst undef) w
/-- Sealed, so that nobody works it out to see whether it is a 'for all'. -/
structure wpSeq (P : Program) (ops : Array Oper) (Q : Exit → Act → World → Prop) (l : List Oper) (a : Act) (w : World) : Prop where
  out : wpSeqD P ops Q l a w
theorem wpList_of_seq : ∀ (l : List Oper) (a : Act) (w : World), wpSeqD P ops Q l a w → wpList P ops Q l a w
  | [], _, _, h => h
  | o :: rest, a, w, h => by
    unfold wpSeqD at h
    unfold wpList
    split
    · rename_i hw
      rw [if_pos hw] at h
      exact h.imp (Oper.wp_mono fun a' w' h' => wpList_of_seq rest a' w' h') id
    · rename_i hw
      rw [if_neg hw] at h
      exact wpList_of_seq rest _ _ h
theorem wp_region_seq {id : Nat} {l : List Oper} {a : Act} {w : World} (h : wpSeq P l.toArray Q l a w) : (Code.region id l.toArray false).wp P Q a w :=
  wp_region_list (wpList_of_seq _ _ _ h.out)
theorem wpSeq_yield {S : World → Prop} {o : Oper} {rest : List Oper} {v : Value} {a : Act} {w : World} (hy : YieldsIf P ops S o v a) (hS : S w) (h : wpSeq P ops Q rest (a.put o.dst v) w) : wpSeq P ops Q (o :: rest) a w := by
  constructor
  unfold wpSeqD
  rcases hy with ⟨hw, hv⟩ | ⟨hw, rfl⟩
  · rw [if_pos hw]
    left
    unfold Oper.wp
    rw [hv w hS]
    exact h.out
  · rw [if_neg (by rw [hw]; decide)]
    exact h.out
theorem wpSeq_wp {o : Oper} {rest : List Oper} {a : Act} {w : World} (hw : Region.wanted o (yielded ops a.tmps) = true) (h : o.wp P a w (wpSeq P ops Q rest) Q) : wpSeq P ops Q (o :: rest) a w := by
  constructor
  unfold wpSeqD
  rw [if_pos hw]
  exact Or.inl (Oper.wp_mono (fun _ _ h' => h'.out) h)
theorem wpSeq_nil {a : Act} {w : World} (h : Q .normal a w) : wpSeq P ops Q [] a w := ⟨h⟩
theorem wpSeq_store_row {o : Oper} {rest : List Oper} {a : Act} {w : World} (hgd : o.guard = none)
    (ty : TypeId) (x y : Operand) (ho : o.op = .store ty x y) (g : Nat) (cells : Array Value) (hx : a.eval x = .pointer (some ⟨g, 0, none⟩)) (hy : a.eval y = .agg cells)
    (t : TypeId) (old : Array Value) (hg : Blk w g t old) (hinf : (P.info? ty).map (·.size) = some cells.size) (hold : old.size = cells.size) (h1 : cells.all (·.oneCell') = true)
    (h : wpSeq P ops Q rest (a.put o.dst undef) (w.setRow g cells)) : wpSeq P ops Q (o :: rest) a w :=
  wpSeq_wp (by simp [Region.wanted, hgd]) (wp_store_row ty x y ho g cells hx hy t old hg hinf hold h1 h)
theorem wpSeq_alloc {o : Oper} {rest : List Oper} {a : Act} {w : World} (t : TypeId) (cs : Array Value) (hw : Region.wanted o (yielded ops a.tmps) = true)
    (hrun : ∀ W, (execOp a.eval o).run P W = .ok (.value (.pointer (some ⟨W.heap.size, 0, none⟩))) (W.alloc (.cells cs t)))
    (h : wpSeq P ops Q rest (a.put o.dst (.pointer (some ⟨w.heap.size, 0, none⟩))) (w.alloc (.cells cs t))) : wpSeq P ops Q (o :: rest) a w := by
  refine wpSeq_wp hw ?_
  unfold Oper.wp
  rw [hrun w]
  exact h
/-- An operation that is guarded off is taken first. -/
theorem yieldsIf_off {S : World → Prop} {o : Oper} {a : Act} (hgd : Region.wanted o (yielded ops a.tmps) = false) : YieldsIf P ops S o undef a := Or.inr ⟨hgd, rfl⟩
theorem yieldsIf_assign {S : World → Prop} {o : Oper} {a : Act} (hgd : Region.wanted o (yielded ops a.tmps) = true) (x : Operand) (ho : o.op = .assign x) (v : Value) (hx : a.eval x = v) : YieldsIf P ops S o v a :=
  Or.inl ⟨hgd, fun w _ => by simp only [execOp, ho, hx, Sem.run_pure]⟩
theorem yieldsIf_not {S : World → Prop} {o : Oper} {a : Act} (hgd : Region.wanted o (yielded ops a.tmps) = true) (t : TypeId) (x : Operand) (ho : o.op = .unOp .not t x) (b : Bool) (hx : a.eval x = .bool b) : YieldsIf P ops S o (.bool !b) a :=
  Or.inl ⟨hgd, fun w _ => by simp only [execOp, ho, hx, Op.unary, Sem.run_bind, Sem.run_pure, Result.andThen_ok]⟩
/-- The element of a tuple. -/
theorem yieldsIf_extract {S : World → Prop} {o : Oper} {a : Act} (hgd : Region.wanted o (yielded ops a.tmps) = true) (x : Operand) (i : Nat) (ho : o.op = .extract x i) (vs : Array Value) (hx : a.eval x = .tuple vs) (v : Value) (hv : vs[i]? = some v) : YieldsIf P ops S o v a := by
  refine Or.inl ⟨hgd, fun w _ => ?_⟩
  simp only [execOp, ho, hx, Instr.extract, hv, Sem.run_bind, Sem.run_pure, Result.andThen_ok]
end


end Go.Proofs.Ytnahjmladhbmpaa
