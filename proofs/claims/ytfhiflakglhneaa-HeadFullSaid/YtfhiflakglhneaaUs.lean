/- Bytes as strings. -/
import Derived.Test.YtfhiflakglhneaaBg
import Derived.Test.YtfhiflakglhneaaLq
import Derived.Laws.BytesArg
namespace Go.Proofs.Ytfhiflakglhneaa
open Go.RowKit

/-- The string of bytes. -/
def strB (l : List Nat) : ByteArray := strOfNums (NI l)
theorem conv_l {w : World} {v : Value} {l : List Nat} (h : SB w v l) : (convert 29 9 v).run Try.prog w = .ok (.string (strB l)) w := by
  obtain ⟨p, c, rfl, hc, h0 | ⟨g, o, rfl, hb⟩⟩ := h
  · subst h0
    cases p with
    | none => exact run_convert_bytes_nil w 29 5 Try.underlying29 Try.underlying5 0 c 9 Try.underlying9
    | some a =>
      rw [List.length_nil, run_convert_bytes_string w 29 9 5 _ 0 c Try.underlying29 Try.underlying5 Try.underlying9, run_bytesToString w a 0 c [] (by simp [loadCells, loadCellsFrom])]
      rfl
  · exact run_convert_bytes_arg w 29 5 Try.underlying29 Try.underlying5 g o l.length c (NI l) (NI_length l) (fun i hi => by
      rw [hb.cell i hi]
      simp [NI, List.getD, hi]) 9 Try.underlying9
theorem yieldsIf_conv {ops : Array Oper} {S : World → Prop} {o : Oper} {a : Act} (hgd : Region.wanted o (yielded ops a.tmps) = true) (x : Operand) (ho : o.op = .convert 29 9 x) (v : Value) (hx : a.eval x = v) (l : List Nat) (hS : ∀ w, S w → SB w v l) : YieldsIf Try.prog ops S o (.string (strB l)) a := by
  refine Or.inl ⟨hgd, fun w hw => ?_⟩
  simp only [execOp, ho, hx, Sem.run_bind, conv_l (hS w hw), Result.andThen_ok, Sem.run_pure]
theorem yieldsIf_strB {ops : Array Oper} {S : World → Prop} {o : Oper} {a : Act} (hgd : Region.wanted o (yielded ops a.tmps) = true) (x y : Operand) (ho : o.op = .binOp .eql 9 x y 9) (l m : List Nat) (hx : a.eval x = .string (strB l)) (hy : a.eval y = .string (strB m)) (h : l = m) : YieldsIf Try.prog ops S o (.bool true) a := by
  refine Or.inl ⟨hgd, fun w _ => ?_⟩
  subst h
  simp only [execOp, ho, hx, hy]
  go_simp
theorem wp_conv {o : Oper} {a : Act} {w : World} {K : Act → World → Prop} {Q : Exit → Act → World → Prop} (x : Operand) (d : Tmp) (ho : o.op = .convert 29 9 x) (hd : o.dst = some d) (v : Value) (hx : a.eval x = v) (l : List Nat) (h : SB w v l) (hK : K (a.put (some d) (.string (strB l))) w) : o.wp Try.prog a w K Q := by
  unfold Oper.wp execOp
  simp only [ho, hx, Sem.run_bind, conv_l h, Result.andThen_ok, Sem.run_pure]
  show K (a.put o.dst _) _
  rw [hd]
  exact hK
theorem yieldsIf_strN {ops : Array Oper} {S : World → Prop} {o : Oper} {a : Act} (hgd : Region.wanted o (yielded ops a.tmps) = true) (x y : Operand) (ho : o.op = .binOp .neq 9 x y 9) (l m : List Nat) (hx : a.eval x = .string (strB l)) (hy : a.eval y = .string (strB m)) (h : l = m) : YieldsIf Try.prog ops S o (.bool false) a := by
  refine Or.inl ⟨hgd, fun w _ => ?_⟩
  subst h
  simp only [execOp, ho, hx, hy]
  go_simp
theorem yieldsIf_pickv {ops : Array Oper} {S : World → Prop} {o : Oper} {a : Act} (hgd : Region.wanted o (yielded ops a.tmps) = true) (c x y : Operand) (ho : o.op = .pick c x y) (b : Bool) (hc : a.eval c = .bool b) (v : Value) (hv : a.eval (if b then x else y) = v) : YieldsIf Try.prog ops S o v a := yieldsIf_pick hgd c x y ho b hc v hv
end Go.Proofs.Ytfhiflakglhneaa
