/- A region that keeps the text's order, as XLi has it, shut: so that whoever looks at the goal does not lay it open (a row of operations that are not wanted lays itself open one behind the other, and does not come to an end). -/
import Derived.Test.YtknmmjnkafmoaaaLo
namespace Go.Proofs.Ytknmmjnkafmoaaa
open Go.RowKit

section
variable {P : Program} {md : Region.Mode} {ops : Array Oper} {Q : Exit → Act → World → Prop}

structure wpShut (P : Program) (ops : Array Oper) (Q : Exit → Act → World → Prop) (l : List Oper) (a : Act) (w : World) : Prop where
  out : wpSeq P ops Q l a w
theorem wpShut_fun (l : List Oper) : (wpShut P ops Q l) = (wpSeq P ops Q l) := by
  funext a w
  exact propext ⟨fun h => h.out, fun h => ⟨h⟩⟩
theorem wp_region_shut {id : Nat} {l : List Oper} {a : Act} {w : World} (h : wpShut P l.toArray Q l a w) : (Code.region id l.toArray false).wp P Q a w := wp_region_seq h.out
theorem wpShut_yield {S : World → Prop} {o : Oper} {rest : List Oper} {v : Value} {a : Act} {w : World} (hy : YieldsIf P ops S o v a) (hS : S w) (h : wpShut P ops Q rest (a.put o.dst v) w) : wpShut P ops Q (o :: rest) a w := ⟨wpSeq_yield hy hS h.out⟩
theorem wpShut_wp {o : Oper} {rest : List Oper} {a : Act} {w : World} (hw : Region.wanted o (yielded ops a.tmps) = true) (h : o.wp P a w (wpShut P ops Q rest) Q) : wpShut P ops Q (o :: rest) a w := ⟨wpSeq_wp hw (wpShut_fun (P := P) (ops := ops) (Q := Q) rest ▸ h)⟩
theorem wpShut_nil {a : Act} {w : World} (h : Q .normal a w) : wpShut P ops Q [] a w := ⟨wpSeq_nil h⟩
end
end Go.Proofs.Ytknmmjnkafmoaaa
