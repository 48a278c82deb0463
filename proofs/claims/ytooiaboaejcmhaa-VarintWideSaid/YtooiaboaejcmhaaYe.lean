/- What the program's Put and Readers are asked to answer; Awake of varint; the law VarintPuts (printed by genye.py). -/
import Derived.Test.YtooiaboaejcmhaaYd
import Derived.Laws.BytesArg
namespace Go.Proofs.Ytooiaboaejcmhaa
open Go.RowKit

/-- The string of bytes. -/
def strB (l : List Nat) : ByteArray := strOfNums (NI l)
theorem conv_l {w : World} {v : Value} {l : List Nat} (h : SB w v l) : (convert 22 9 v).run Try.prog w = .ok (.string (strB l)) w := by
  obtain ⟨p, c, rfl, hc, h0 | ⟨g, o, rfl, hb⟩⟩ := h
  · subst h0
    cases p with
    | none => exact run_convert_bytes_nil w 22 5 Try.underlying22 Try.underlying5 0 c 9 Try.underlying9
    | some a =>
      rw [List.length_nil, run_convert_bytes_string w 22 9 5 _ 0 c Try.underlying22 Try.underlying5 Try.underlying9, run_bytesToString w a 0 c [] (by simp [loadCells, loadCellsFrom])]
      rfl
  · exact run_convert_bytes_arg w 22 5 Try.underlying22 Try.underlying5 g o l.length c (NI l) (NI_length l) (fun i hi => by
      rw [hb.cell i hi]
      simp [NI, List.getD, hi]) 9 Try.underlying9
theorem yieldsIf_conv {ops : Array Oper} {S : World → Prop} {o : Oper} {a : Act} (hgd : Region.wanted o (yielded ops a.tmps) = true) (x : Operand) (ho : o.op = .convert 22 9 x) (v : Value) (hx : a.eval x = v) (l : List Nat) (hS : ∀ w, S w → SB w v l) : YieldsIf Try.prog ops S o (.string (strB l)) a := by
  refine Or.inl ⟨hgd, fun w hw => ?_⟩
  simp only [execOp, ho, hx, Sem.run_bind, conv_l (hS w hw), Result.andThen_ok, Sem.run_pure]
theorem yieldsIf_strB {ops : Array Oper} {S : World → Prop} {o : Oper} {a : Act} (hgd : Region.wanted o (yielded ops a.tmps) = true) (x y : Operand) (ho : o.op = .binOp .eql 9 x y 9) (l m : List Nat) (hx : a.eval x = .string (strB l)) (hy : a.eval y = .string (strB m)) (h : l = m) : YieldsIf Try.prog ops S o (.bool true) a := by
  refine Or.inl ⟨hgd, fun w _ => ?_⟩
  subst h
  simp only [execOp, ho, hx, hy]
  go_simp
theorem wp_conv {o : Oper} {a : Act} {w : World} {K : Act → World → Prop} {Q : Exit → Act → World → Prop} (x : Operand) (d : Tmp) (ho : o.op = .convert 22 9 x) (hd : o.dst = some d) (v : Value) (hx : a.eval x = v) (l : List Nat) (h : SB w v l) (hK : K (a.put (some d) (.string (strB l))) w) : o.wp Try.prog a w K Q := by
  unfold Oper.wp execOp
  simp only [ho, hx, Sem.run_bind, conv_l h, Result.andThen_ok, Sem.run_pure]
  show K (a.put o.dst _) _
  rw [hd]
  exact hK
theorem yieldsIf_strN {ops : Array Oper} {S : World → Prop} {o : Oper} {a : Act} (hgd : Region.wanted o (yielded ops a.tmps) = true) (x y : Operand) (ho : o.op = .binOp .neq 9 x y 9) (l m : List Nat) (hx : a.eval x = .string (strB l)) (hy : a.eval y = .string (strB m)) (h : l = m) : YieldsIf Try.prog ops S o (.bool false) a := by
  refine Or.inl ⟨hgd, fun w _ => ?_⟩
  subst h
  simp only [execOp, ho, hx, hy]
  go_simp
theorem yieldsIf_pickv {ops : Array Oper} {S : World → Prop} {o : Oper} {a : Act} (hgd : Region.wanted o (yielded ops a.tmps) = true) (c x y : Operand) (ho : o.op = .pick c x y) (b : Bool) (hc : a.eval c = .bool b) (v : Value) (hv : a.eval (if b then x else y) = v) : YieldsIf Try.prog ops S o v a := yieldsIf_pick hgd c x y ho b hc v hv
/-- What the program's Put is asked to answer: the bytes and the numbers behind them, in new memory; ErrRange and nothing, if one is too great. -/
def PutC : Prop := ∀ (b l : List Nat) (o : Option (List Nat)) (pb pl : Option Addr) (nb nl cb cl : Nat), (∀ x ∈ b, x < 256) → (∀ x ∈ l, x < 18446744073709551616) → nb ≤ 2000 → nl ≤ 1000 → o = putO b l →
  ∀ W, SB W (.slice pb nb cb) b → SU W (.slice pl nl cl) l → Calls Try.prog 8 #[.slice pb nb cb, .slice pl nl cl] W fun e w' => ∃ v, e = .returned (.tuple #[v, .int .i64 (if o.isSome then 0 else 2)]) ∧ OwL W.heap.size w' v (o.getD []) ∧ Below W.heap.size W w'
/-- What its Readers are asked to answer. R B w p l c: at p, in blocks from B on, a reader that has l left, and the fault c. -/
structure ReaderC (R : Nat → World → Option Addr → List Nat → Nat → Prop) : Prop where
  new : ∀ (l : List Nat) (p : Option Addr) (n c : Nat), (∀ x ∈ l, x < 256) → n ≤ 10000 → ∀ W, SB W (.slice p n c) l → Calls Try.prog 10 #[.slice p n c] W fun e w' => ∃ q, e = .returned (.pointer q) ∧ R W.heap.size w' q l 0 ∧ Below W.heap.size W w'
  num : ∀ (B : Nat) (p : Option Addr) (l : List Nat) (c : Nat) (W : World), R B W p l c → B ≤ W.heap.size → Calls Try.prog 11 #[.pointer p] W fun e w' => e = .returned (.int .u64 ((numS l c).1 : Int)) ∧ R B w' p (numS l c).2.1 (numS l c).2.2 ∧ Below B W w'
  code : ∀ (B : Nat) (p : Option Addr) (l : List Nat) (c : Nat) (W : World), R B W p l c → B ≤ W.heap.size → Calls Try.prog 13 #[.pointer p] W fun e w' => e = .returned (.int .i64 (c : Int)) ∧ R B w' p l c ∧ Below B W w'
  left : ∀ (B : Nat) (p : Option Addr) (l : List Nat) (c : Nat) (W : World), R B W p l c → B ≤ W.heap.size → Calls Try.prog 14 #[.pointer p] W fun e w' => e = .returned (.int .i64 (l.length : Int)) ∧ R B w' p l c ∧ Below B W w'
  fin : ∀ (B : Nat) (p : Option Addr) (l : List Nat) (c : Nat) (W : World), R B W p l c → B ≤ W.heap.size → Calls Try.prog 12 #[.pointer p] W fun e w' => e = .returned (.int .i64 ((if l ≠ [] ∧ c = 0 then 4 else c : Nat) : Int)) ∧ R B w' p l (if l ≠ [] ∧ c = 0 then 4 else c) ∧ Below B W w'
  below : ∀ {B : Nat} {w w' : World} {p : Option Addr} {l : List Nat} {c : Nat}, R B w p l c → Below w.heap.size w w' → R B w' p l c
variable {R : Nat → World → Option Addr → List Nat → Nat → Prop}
theorem vputs_ex : vputs [37, 15293] = [37, 123, 189] := by decide
theorem putO_ex : some [37, 123, 189] = putO [] [37, 15293] := by decide
theorem strB_ex : strB [37, 123, 189] = { data := #[37, 123, 189] } := by rfl
theorem words_two (W : World) (x y : Nat) : SU (W.alloc (.cells #[.int .u64 (x : Int), .int .u64 (y : Int)] 31)) (.slice (some ⟨W.heap.size, 0, none⟩) 2 2) [x, y] := by
  have K := Blk.new W 31 #[.int .u64 (x : Int), .int .u64 (y : Int)]
  refine ⟨_, 2, rfl, Nat.le_refl _, Or.inr ⟨W.heap.size, 0, rfl, fun i hi => ?_, K.lt⟩⟩
  have : i = 0 ∨ i = 1 := by simp at hi; omega
  rcases this with rfl | rfl
  · exact Blk.cell K 0
  · exact Blk.cell K 1
set_option maxHeartbeats 4000000 in
set_option maxRecDepth 100000 in
theorem vawake_c (PC : PutC) (RC : ReaderC R) (w : World) : Calls Try.prog 7 #[] w fun e w' => e = .returned (.bool true) ∧ Below w.heap.size w w' := by
  have C := Lib.hid (fun W p c h => PC [] [37, 15293] _ none p 0 2 0 c (fun _ h => by cases h) (by decide) (by decide) (by decide) putO_ex W (SB.nil _ _ _) h)
  clear PC
  go_enter Try.func7, Try.ntmps7
  go_wp2_with fail
  have b0 := (Below.refl w.heap.size w).alloc (Nat.le_refl _) (.cells #[.int .u64 ((37 : Nat) : Int), .int .u64 ((15293 : Nat) : Int)] 31)
  refine (C.out _ _ _ (words_two w 37 15293)).mono ?_
  rintro _ w1 ⟨v1, rfl, O1, b1⟩
  replace O1 : OwL _ w1 v1 [37, 123, 189] := O1
  replace b0 := b0.trans (b1.mono b0.size)
  obtain ⟨p1, c1, hv⟩ := O1.shape
  replace hv : v1 = .slice p1 3 c1 := hv
  subst hv
  have s1 := O1.sb
  clear O1 b1 C
  go_upto_region 2 with fail
  rename_i aK
  refine wp_region_seq ?_
  refine wpSeq_yield (S := fun w' => w' = w1) (yieldsIf_move rfl _ rfl (.int .i64 0) rfl) rfl ?_
  simp only [Act.put, List.setIfInBounds_toArray, List.set_cons_zero, List.set_cons_succ]
  refine wpSeq_yield (S := fun w' => w' = w1) (v := .bool true) (Or.inl ⟨by rfl, fun w' hw' => by rw [hw']; go_simp⟩) rfl ?_
  simp only [Act.put, List.setIfInBounds_toArray, List.set_cons_zero, List.set_cons_succ]
  refine wpSeq_yield (S := fun w' => w' = w1) (yieldsIf_move rfl _ rfl (.bool true) rfl) rfl ?_
  simp only [Act.put, List.setIfInBounds_toArray, List.set_cons_zero, List.set_cons_succ]
  refine wpSeq_yield (S := fun w' => w' = w1) (yieldsIf_move rfl _ rfl (.slice p1 3 c1) rfl) rfl ?_
  simp only [Act.put, List.setIfInBounds_toArray, List.set_cons_zero, List.set_cons_succ]
  refine wpSeq_yield (S := fun w' => w' = w1) (yieldsIf_conv rfl _ rfl (.slice p1 3 c1) rfl [37, 123, 189] (fun w' h => h ▸ s1)) rfl ?_
  simp only [Act.put, List.setIfInBounds_toArray, List.set_cons_zero, List.set_cons_succ]
  rw [strB_ex]
  refine wpSeq_yield (S := fun w' => w' = w1) (v := .bool true) (Or.inl ⟨by rfl, fun w' hw' => by rw [hw']; go_simp⟩) rfl ?_
  simp only [Act.put, List.setIfInBounds_toArray, List.set_cons_zero, List.set_cons_succ]
  refine wpSeq_yield (S := fun w' => w' = w1) (yieldsIf_pick rfl _ _ _ rfl true rfl (.bool true) rfl) rfl ?_
  simp only [Act.put, List.setIfInBounds_toArray, List.set_cons_zero, List.set_cons_succ]
  refine wpSeq_yield (S := fun w' => w' = w1) (yieldsIf_move rfl _ rfl (.bool true) rfl) rfl ?_
  simp only [Act.put, List.setIfInBounds_toArray, List.set_cons_zero, List.set_cons_succ]
  refine wpSeq_yield (S := fun w' => w' = w1) (yieldsIf_move rfl _ rfl (.slice p1 3 c1) rfl) rfl ?_
  simp only [Act.put, List.setIfInBounds_toArray, List.set_cons_zero, List.set_cons_succ]
  refine wpSeq_wp rfl ?_
  unfold Oper.wp execOp
  go_simp
  refine (RC.new [37, 123, 189] p1 3 c1 (by decide) (by decide) _ s1).mono ?_
  rintro _ w2 ⟨q, rfl, HR, b2⟩
  go_simp
  refine wpSeq_wp rfl ?_
  unfold Oper.wp execOp
  go_simp
  refine (RC.num _ q _ _ _ HR b2.size).mono ?_
  rintro _ w3 ⟨rfl, _, b3⟩
  go_simp
  replace b0 := b0.trans ((b2.trans b3).mono b0.size)
  clear HR b2 b3 s1
  have hn : (((numS [37, 123, 189] 0).1 : Nat) : Int) = 37 := by decide
  refine wpSeq_yield (S := fun _ => True) (v := .bool true) (Or.inl ⟨by rfl, fun w' hw' => by go_simp⟩) trivial ?_
  simp only [Act.put, List.setIfInBounds_toArray, List.set_cons_zero, List.set_cons_succ]
  refine wpSeq_yield (S := fun _ => True) (yieldsIf_pick rfl _ _ _ rfl true rfl (.bool true) rfl) trivial ?_
  simp only [Act.put, List.setIfInBounds_toArray, List.set_cons_zero, List.set_cons_succ]
  refine wpSeq_yield (S := fun _ => True) (yieldsIf_assign rfl _ rfl (.bool true) rfl) trivial ?_
  simp only [Act.put, List.setIfInBounds_toArray, List.set_cons_zero]
  refine wpSeq_nil ?_
  refine aK _ _ ?_
  clear aK hn
  go_wp2
  go_ret
  exact ⟨rfl, b0⟩
end Go.Proofs.Ytooiaboaejcmhaa
