/- Certificates held against each other. -/
import Derived.Test.YtegbnadnodlalaaDoorE3a0E3b
import Derived.Test.YtegbnadnodlalaaDoorGFd0GFf
import Derived.Laws.StructEq
namespace Go.Proofs.YtegbnadnodlalaaDoor
open Go.RowKit
theorem cert_fields : (Tryd.prog.fieldsOf 37).toList.map (fun f => (f.type, f.offset)) = [(9, 0), (34, 1), (35, 33)] := by kernel_rfl
theorem cert_names : (Tryd.prog.fieldsOf 37).toList.all (fun f => decide (f.name ≠ "_")) = true := by kernel_rfl
theorem cert_und2 : Tryd.prog.underlying 37 = some (.struct (Tryd.prog.fieldsOf 37)) := by kernel_rfl
theorem cert_held : Tryd.prog.stoodInHeld 37 = false := by kernel_rfl
theorem cert_guard : Tryd.prog.eqGuardType Tryd.prog.depth 37 = false := by kernel_rfl
theorem eqF_step {P : Program} (f : Field) (fs : List Field) (xs ys : Array Value) (d : Nat) (w : World) (hn : f.name ≠ "_") (a b : Value) (ha : (part f.type xs f.offset).run P w = .ok a w) (hb : (part f.type ys f.offset).run P w = .ok b w) (he : (Op.equalIn d f.type a b).run P w = .ok true w) :
    (Op.eqFields d xs ys (f :: fs)).run P w = (Op.eqFields d xs ys fs).run P w := by
  simp [Op.eqFields, hn, ha, hb, he]
theorem part_row (t : TypeId) (n : Nat) (cs : Array Value) (off : Nat) (w : World) (d : TypeDesc) (hu : Tryd.prog.underlying t = some d) (hd : d.isRow = true) (hi : (Tryd.prog.info? t).map (·.size) = some n) : (part t cs off).run Tryd.prog w = .ok (.agg (cs.extract off (off + n))) w := by
  cases h : Tryd.prog.info? t with
  | none => rw [h] at hi; cases hi
  | some i =>
    rw [h] at hi
    simp only [Option.map_some, Option.some.injEq] at hi
    cases d <;> simp [TypeDesc.isRow] at hd <;> simp [part, isAgg, run_underlying hu, sizeOf, typeInfo, h, hi]
theorem ext_key (t : ByteArray) {k : List Nat} (s : List Nat) (lk : k.length = 32) : (cerV t k s).extract 1 (1 + 32) = Iv .u8 (NI k) := by
  rw [vals_iv]
  apply Array.ext'
  simp [cerV, cerL, List.take_append, List.drop_append, vals_length, lk]
theorem ext_sig (t : ByteArray) {k s : List Nat} (lk : k.length = 32) (ls : s.length = 64) : (cerV t k s).extract 33 (33 + 64) = Iv .u8 (NI s) := by
  rw [vals_iv]
  apply Array.ext'
  simp [cerV, cerL, List.take_append, List.drop_append, vals_length, lk, ls]
  exact List.take_of_length_le (by rw [vals_length, ls]; exact Nat.le_refl _)
theorem eq_key9 (l : List Nat) (h : l.length = 32) (w : World) : (Op.equalIn 9999 34 (.agg (Iv .u8 (NI l))) (.agg (Iv .u8 (NI l)))).run Tryd.prog w = .ok true w := by
  obtain ⟨i, hi⟩ : ∃ i, Tryd.prog.info? 5 = some i := info_of_underlying Tryd.underlying5
  have e := run_eq_ints w 9997 (n := 32) (e := 5) (k := .u8) Tryd.underlying34 hi Tryd.underlying5 (by kernel_rfl) (by kernel_rfl) (NI l) (NI l) (by rw [NI_length]; exact h) (by rw [NI_length]; exact h)
  rw [decide_eq_true rfl] at e
  exact e
theorem eq_sig9 (l : List Nat) (h : l.length = 64) (w : World) : (Op.equalIn 9999 35 (.agg (Iv .u8 (NI l))) (.agg (Iv .u8 (NI l)))).run Tryd.prog w = .ok true w := by
  obtain ⟨i, hi⟩ : ∃ i, Tryd.prog.info? 5 = some i := info_of_underlying Tryd.underlying5
  have e := run_eq_ints w 9997 (n := 64) (e := 5) (k := .u8) Tryd.underlying35 hi Tryd.underlying5 (by kernel_rfl) (by kernel_rfl) (NI l) (NI l) (by rw [NI_length]; exact h) (by rw [NI_length]; exact h)
  rw [decide_eq_true rfl] at e
  exact e
theorem cert_eq (t : ByteArray) (k s : List Nat) (lk : k.length = 32) (ls : s.length = 64) (w : World) : (Op.equalIn 10000 37 (.agg (cerV t k s)) (.agg (cerV t k s))).run Tryd.prog w = .ok true w := by
  have hf := cert_fields
  have hn := cert_names
  rw [run_equalIn_struct w 9999 37 _ _ cert_und2 cert_held]
  generalize (Tryd.prog.fieldsOf 37).toList = L at *
  obtain ⟨f1, L1, rfl, e1, hf⟩ := List.map_eq_cons_iff.1 hf
  obtain ⟨f2, L2, rfl, e2, hf⟩ := List.map_eq_cons_iff.1 hf
  obtain ⟨f3, L3, rfl, e3, hf⟩ := List.map_eq_cons_iff.1 hf
  obtain rfl := List.map_eq_nil_iff.1 hf
  simp only [Prod.mk.injEq] at e1 e2 e3
  simp only [List.all_cons, List.all_nil, Bool.and_true, Bool.and_eq_true, decide_eq_true_eq] at hn
  have pn : (part f1.type (cerV t k s) f1.offset).run Tryd.prog w = .ok (.string t) w := by
    rw [e1.1, e1.2]
    simp [part, isAgg, run_underlying Tryd.underlying9, cerV, cerL]
  have pk : (part f2.type (cerV t k s) f2.offset).run Tryd.prog w = .ok (.agg (Iv .u8 (NI k))) w := by
    rw [e2.1, e2.2, part_row _ 32 _ _ w _ Tryd.underlying34 rfl (by kernel_rfl), ext_key t s lk]
  have ps : (part f3.type (cerV t k s) f3.offset).run Tryd.prog w = .ok (.agg (Iv .u8 (NI s))) w := by
    rw [e3.1, e3.2, part_row _ 64 _ _ w _ Tryd.underlying35 rfl (by kernel_rfl), ext_sig t lk ls]
  rw [eqF_step f1 _ _ _ 9999 w hn.1 _ _ pn pn (by rw [e1.1, run_equalIn_string w 9998 _ _ _ Tryd.underlying9]; simp), eqF_step f2 _ _ _ 9999 w hn.2.1 _ _ pk pk (by rw [e2.1]; exact eq_key9 k lk w), eqF_step f3 _ _ _ 9999 w hn.2.2 _ _ ps ps (by rw [e3.1]; exact eq_sig9 s ls w)]
  rfl
theorem yieldsIf_neqcert {ops : Array Oper} {S : World → Prop} {o : Oper} {a : Act} (hgd : Region.wanted o (yielded ops a.tmps) = true) (x y : Operand) (ho : o.op = .binOp .neq 37 x y 37) (t : ByteArray) (k s : List Nat) (lk : k.length = 32) (ls : s.length = 64) (hx : a.eval x = .agg (cerV t k s)) (hy : a.eval y = .agg (cerV t k s)) : YieldsIf Tryd.prog ops S o (.bool false) a := by
  refine Or.inl ⟨hgd, fun w _ => ?_⟩
  simp only [execOp, ho, hx, hy, Sem.run_bind, Sem.run_pure, Result.andThen_ok, run_eqGuard_agg (hm := cert_guard), run_neq_struct, cert_eq t k s lk ls w, Bool.not_true]
end Go.Proofs.YtegbnadnodlalaaDoor
