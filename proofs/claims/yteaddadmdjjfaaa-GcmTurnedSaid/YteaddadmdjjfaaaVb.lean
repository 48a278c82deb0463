/- What the program's Seal and Open are asked to answer; strings of bytes; Awake of gcm. -/
import Derived.Test.YteaddadmdjjfaaaGf
import Derived.Laws.BytesArg
namespace Go.Proofs.Yteaddadmdjjfaaa
open Go.RowKit

/-- What the program's Seal is asked to answer: new bytes, sealed. -/
def SealC : Prop := ∀ (k nn D b S : List Nat) (pd pb : Option Addr) (nd nb cd cb : Nat), k.length = 16 → nn.length = 12 → (∀ x ∈ k, x < 256) → (∀ x ∈ nn, x < 256) → (∀ x ∈ D, x < 256) → (∀ x ∈ b, x < 256) → nd ≤ 1000 → nb ≤ 1000 → S = sealL k nn D b →
  ∀ W, SB W (.slice pd nd cd) D → SB W (.slice pb nb cb) b → Calls Try.prog 10 #[.agg (Iv .u8 (NI k)), .agg (Iv .u8 (NI nn)), .slice pd nd cd, .slice pb nb cb] W fun e w' => ∃ v, e = .returned v ∧ OwL W.heap.size w' v S ∧ Below W.heap.size W w'
/-- What its Open is asked to answer: what was sealed so, in new memory, and true; else nothing, and false. -/
def OpenC : Prop := ∀ (k nn D s : List Nat) (o : Option (List Nat)) (pd ps : Option Addr) (nd ns cd cs : Nat), k.length = 16 → nn.length = 12 → (∀ x ∈ k, x < 256) → (∀ x ∈ nn, x < 256) → (∀ x ∈ D, x < 256) → (∀ x ∈ s, x < 256) → nd ≤ 1000 → ns ≤ 1000 → o = openL k nn D s →
  ∀ W, SB W (.slice pd nd cd) D → SB W (.slice ps ns cs) s → Calls Try.prog 11 #[.agg (Iv .u8 (NI k)), .agg (Iv .u8 (NI nn)), .slice pd nd cd, .slice ps ns cs] W fun e w' => ∃ v, e = .returned (.tuple #[v, .bool o.isSome]) ∧ OwL W.heap.size w' v (o.getD []) ∧ Below W.heap.size W w'
/-- The string of bytes. -/
def strB (l : List Nat) : ByteArray := strOfNums (NI l)
theorem conv_l {w : World} {v : Value} {l : List Nat} (h : SB w v l) : (convert 24 9 v).run Try.prog w = .ok (.string (strB l)) w := by
  obtain ⟨p, c, rfl, hc, h0 | ⟨g, o, rfl, hb⟩⟩ := h
  · subst h0
    cases p with
    | none => exact run_convert_bytes_nil w 24 5 Try.underlying24 Try.underlying5 0 c 9 Try.underlying9
    | some a =>
      rw [List.length_nil, run_convert_bytes_string w 24 9 5 _ 0 c Try.underlying24 Try.underlying5 Try.underlying9, run_bytesToString w a 0 c [] (by simp [loadCells, loadCellsFrom])]
      rfl
  · exact run_convert_bytes_arg w 24 5 Try.underlying24 Try.underlying5 g o l.length c (NI l) (NI_length l) (fun i hi => by
      rw [hb.cell i hi]
      simp [NI, List.getD, hi]) 9 Try.underlying9
theorem yieldsIf_conv {ops : Array Oper} {S : World → Prop} {o : Oper} {a : Act} (hgd : Region.wanted o (yielded ops a.tmps) = true) (x : Operand) (ho : o.op = .convert 24 9 x) (v : Value) (hx : a.eval x = v) (l : List Nat) (hS : ∀ w, S w → SB w v l) : YieldsIf Try.prog ops S o (.string (strB l)) a := by
  refine Or.inl ⟨hgd, fun w hw => ?_⟩
  simp only [execOp, ho, hx, Sem.run_bind, conv_l (hS w hw), Result.andThen_ok, Sem.run_pure]
theorem yieldsIf_strB {ops : Array Oper} {S : World → Prop} {o : Oper} {a : Act} (hgd : Region.wanted o (yielded ops a.tmps) = true) (x y : Operand) (ho : o.op = .binOp .eql 9 x y 9) (l m : List Nat) (hx : a.eval x = .string (strB l)) (hy : a.eval y = .string (strB m)) (h : l = m) : YieldsIf Try.prog ops S o (.bool true) a := by
  refine Or.inl ⟨hgd, fun w _ => ?_⟩
  subst h
  simp only [execOp, ho, hx, hy]
  go_simp
set_option maxHeartbeats 4000000 in
set_option maxRecDepth 100000 in
theorem gawake_c (CS : SealC) (w : World) : Calls Try.prog 9 #[] w fun e w' => e = .returned (.bool true) ∧ Below w.heap.size w w' := by
  have C := Lib.hid (fun W h => CS (List.replicate 16 0) (List.replicate 12 0) [] [] _ none none 0 0 0 0 rfl rfl (by decide) (by decide) (by decide) (by decide) (by decide) (by decide) seal_example.symm W h h)
  clear CS
  go_enter Try.func9, Try.ntmps9
  go_wp2_with fail
  refine (C.out _ (SB.nil _ _ _)).mono ?_
  rintro _ w1 ⟨v, rfl, O, b⟩
  rcases O.row with ⟨_, h0⟩ | ⟨g, cap, rfl, hg, hc, _, A, _⟩
  · cases h0
  have c0 : w1.cell? ⟨g, 0, none⟩ = some (.int .u8 88) := A.at0 0 (by decide)
  have c1 : w1.cell? ⟨g, 1, none⟩ = some (.int .u8 226) := A.at0 1 (by decide)
  have c2 : w1.cell? ⟨g, 2, none⟩ = some (.int .u8 252) := A.at0 2 (by decide)
  have c15 : w1.cell? ⟨g, 15, none⟩ = some (.int .u8 90) := A.at0 15 (by decide)
  clear C O A
  go_wp2
  go_ret
  exact ⟨rfl, b⟩
end Go.Proofs.Yteaddadmdjjfaaa
