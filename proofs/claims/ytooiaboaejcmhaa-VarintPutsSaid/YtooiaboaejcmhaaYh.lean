/- The law VarintNil, by contract of a nil Reader (printed by genyh.py). -/
import Derived.Test.YtooiaboaejcmhaaYe
namespace Go.Proofs.Ytooiaboaejcmhaa
open Go.RowKit

/-- What a nil Reader is asked to answer. -/
structure NilC : Prop where
  fail : ∀ (c : Int) (W : World), IntKind.i64.wrap c = c → Calls Try.prog 15 #[.pointer none, .int .i64 c] W fun e w' => (∃ v, e = .returned v) ∧ Below W.heap.size W w'
  code : ∀ W : World, Calls Try.prog 13 #[.pointer none] W fun e w' => e = .returned (.int .i64 1) ∧ Below W.heap.size W w'
  left : ∀ W : World, Calls Try.prog 14 #[.pointer none] W fun e w' => e = .returned (.int .i64 0) ∧ Below W.heap.size W w'
  bytes : ∀ (n : Nat) (W : World), n < 18446744073709551616 → Calls Try.prog 16 #[.pointer none, .int .u64 (n : Int)] W fun e w' => (∃ p c, e = .returned (.slice p 0 c)) ∧ Below W.heap.size W w'
  byte : ∀ W : World, Calls Try.prog 17 #[.pointer none] W fun e w' => e = .returned (.int .u8 0) ∧ Below W.heap.size W w'
  num : ∀ W : World, Calls Try.prog 11 #[.pointer none] W fun e w' => e = .returned (.int .u64 0) ∧ Below W.heap.size W w'
  fin : ∀ W : World, Calls Try.prog 12 #[.pointer none] W fun e w' => e = .returned (.int .i64 1) ∧ Below W.heap.size W w'
variable {R : Nat → World → Option Addr → List Nat → Nat → Prop}
set_option maxHeartbeats 4000000 in
set_option maxRecDepth 100000 in
theorem nil_c (PC : PutC) (RC : ReaderC R) (NC : NilC) (n : Nat) (hn : n < 18446744073709551616) (c : Int) (hc : IntKind.i64.wrap c = c) (w : World) :
    Calls Try.prog 5 #[.int .u64 (n : Int), .int .i64 c] w fun e w' => e = .returned (.bool true) ∧ Below w.heap.size w w' := by
  have AW := Lib.hid (vawake_c PC RC w)
  have C0 := Lib.hid (fun W => NC.fail c W hc)
  have C1 := Lib.hid NC.code
  have C2 := Lib.hid NC.left
  have C3 := Lib.hid (fun W => NC.bytes n W hn)
  have C4 := Lib.hid NC.byte
  have C5 := Lib.hid NC.num
  have C6 := Lib.hid NC.fin
  clear PC RC NC hc
  go_enter Try.func5, Try.ntmps5
  go_wp2_with fail
  refine AW.out.mono ?_
  rintro _ w1 ⟨rfl, b1⟩
  clear AW
  go_wp2_with fail
  refine (C0.out _).mono ?_
  rintro _ w2 ⟨⟨v, rfl⟩, b2⟩
  replace b1 := b1.trans (b2.mono b1.size)
  clear b2 C0
  go_upto_region 5 with fail
  rename_i aK
  refine wp_region_seq ?_
  refine wpSeq_yield (S := fun _ => True) (yieldsIf_move rfl _ rfl (.pointer none) rfl) trivial ?_
  simp only [Act.put, List.setIfInBounds_toArray, List.set_cons_zero, List.set_cons_succ]
  refine wpSeq_wp rfl ?_
  unfold Oper.wp execOp
  go_simp
  refine (C1.out _).mono ?_
  rintro _ w3 ⟨rfl, b2⟩
  replace b1 := b1.trans (b2.mono b1.size)
  clear b2 C1
  go_simp
  refine wpSeq_yield (S := fun _ => True) (v := .bool true) (Or.inl ⟨by rfl, fun w' hw' => by go_simp⟩) trivial ?_
  simp only [Act.put, List.setIfInBounds_toArray, List.set_cons_zero, List.set_cons_succ]
  refine wpSeq_yield (S := fun _ => True) (yieldsIf_move rfl _ rfl (.bool true) rfl) trivial ?_
  simp only [Act.put, List.setIfInBounds_toArray, List.set_cons_zero, List.set_cons_succ]
  refine wpSeq_yield (S := fun _ => True) (yieldsIf_move rfl _ rfl (.pointer none) rfl) trivial ?_
  simp only [Act.put, List.setIfInBounds_toArray, List.set_cons_zero, List.set_cons_succ]
  refine wpSeq_wp rfl ?_
  unfold Oper.wp execOp
  go_simp
  refine (C2.out _).mono ?_
  rintro _ w4 ⟨rfl, b2⟩
  replace b1 := b1.trans (b2.mono b1.size)
  clear b2 C2
  go_simp
  refine wpSeq_yield (S := fun _ => True) (v := .bool true) (Or.inl ⟨by rfl, fun w' hw' => by go_simp⟩) trivial ?_
  simp only [Act.put, List.setIfInBounds_toArray, List.set_cons_zero, List.set_cons_succ]
  refine wpSeq_yield (S := fun _ => True) (yieldsIf_pick rfl _ _ _ rfl true rfl (.bool true) rfl) trivial ?_
  simp only [Act.put, List.setIfInBounds_toArray, List.set_cons_zero, List.set_cons_succ]
  refine wpSeq_yield (S := fun _ => True) (yieldsIf_move rfl _ rfl (.bool true) rfl) trivial ?_
  simp only [Act.put, List.setIfInBounds_toArray, List.set_cons_zero, List.set_cons_succ]
  refine wpSeq_yield (S := fun _ => True) (yieldsIf_move rfl _ rfl (.pointer none) rfl) trivial ?_
  simp only [Act.put, List.setIfInBounds_toArray, List.set_cons_zero, List.set_cons_succ]
  refine wpSeq_yield (S := fun _ => True) (yieldsIf_move rfl _ rfl (.int .u64 (n : Int)) rfl) trivial ?_
  simp only [Act.put, List.setIfInBounds_toArray, List.set_cons_zero, List.set_cons_succ]
  refine wpSeq_wp rfl ?_
  unfold Oper.wp execOp
  go_simp
  refine (C3.out _).mono ?_
  rintro _ w5 ⟨⟨p5, c5, rfl⟩, b2⟩
  replace b1 := b1.trans (b2.mono b1.size)
  clear b2 C3
  go_simp
  refine wpSeq_yield (S := fun _ => True) (v := .int .i64 0) (Or.inl ⟨by rfl, fun w' hw' => by go_simp⟩) trivial ?_
  simp only [Act.put, List.setIfInBounds_toArray, List.set_cons_zero, List.set_cons_succ]
  refine wpSeq_yield (S := fun _ => True) (v := .bool true) (Or.inl ⟨by rfl, fun w' hw' => by go_simp⟩) trivial ?_
  simp only [Act.put, List.setIfInBounds_toArray, List.set_cons_zero, List.set_cons_succ]
  refine wpSeq_yield (S := fun _ => True) (yieldsIf_pick rfl _ _ _ rfl true rfl (.bool true) rfl) trivial ?_
  simp only [Act.put, List.setIfInBounds_toArray, List.set_cons_zero, List.set_cons_succ]
  refine wpSeq_yield (S := fun _ => True) (yieldsIf_move rfl _ rfl (.bool true) rfl) trivial ?_
  simp only [Act.put, List.setIfInBounds_toArray, List.set_cons_zero, List.set_cons_succ]
  refine wpSeq_yield (S := fun _ => True) (yieldsIf_move rfl _ rfl (.pointer none) rfl) trivial ?_
  simp only [Act.put, List.setIfInBounds_toArray, List.set_cons_zero, List.set_cons_succ]
  refine wpSeq_wp rfl ?_
  unfold Oper.wp execOp
  go_simp
  refine (C4.out _).mono ?_
  rintro _ w6 ⟨rfl, b2⟩
  replace b1 := b1.trans (b2.mono b1.size)
  clear b2 C4
  go_simp
  refine wpSeq_yield (S := fun _ => True) (v := .bool true) (Or.inl ⟨by rfl, fun w' hw' => by go_simp⟩) trivial ?_
  simp only [Act.put, List.setIfInBounds_toArray, List.set_cons_zero, List.set_cons_succ]
  refine wpSeq_yield (S := fun _ => True) (yieldsIf_pick rfl _ _ _ rfl true rfl (.bool true) rfl) trivial ?_
  simp only [Act.put, List.setIfInBounds_toArray, List.set_cons_zero, List.set_cons_succ]
  refine wpSeq_yield (S := fun _ => True) (yieldsIf_move rfl _ rfl (.bool true) rfl) trivial ?_
  simp only [Act.put, List.setIfInBounds_toArray, List.set_cons_zero, List.set_cons_succ]
  refine wpSeq_yield (S := fun _ => True) (yieldsIf_move rfl _ rfl (.pointer none) rfl) trivial ?_
  simp only [Act.put, List.setIfInBounds_toArray, List.set_cons_zero, List.set_cons_succ]
  refine wpSeq_wp rfl ?_
  unfold Oper.wp execOp
  go_simp
  refine (C5.out _).mono ?_
  rintro _ w7 ⟨rfl, b2⟩
  replace b1 := b1.trans (b2.mono b1.size)
  clear b2 C5
  go_simp
  refine wpSeq_yield (S := fun _ => True) (v := .bool true) (Or.inl ⟨by rfl, fun w' hw' => by go_simp⟩) trivial ?_
  simp only [Act.put, List.setIfInBounds_toArray, List.set_cons_zero, List.set_cons_succ]
  refine wpSeq_yield (S := fun _ => True) (yieldsIf_pick rfl _ _ _ rfl true rfl (.bool true) rfl) trivial ?_
  simp only [Act.put, List.setIfInBounds_toArray, List.set_cons_zero, List.set_cons_succ]
  refine wpSeq_yield (S := fun _ => True) (yieldsIf_move rfl _ rfl (.bool true) rfl) trivial ?_
  simp only [Act.put, List.setIfInBounds_toArray, List.set_cons_zero, List.set_cons_succ]
  refine wpSeq_yield (S := fun _ => True) (yieldsIf_move rfl _ rfl (.pointer none) rfl) trivial ?_
  simp only [Act.put, List.setIfInBounds_toArray, List.set_cons_zero, List.set_cons_succ]
  refine wpSeq_wp rfl ?_
  unfold Oper.wp execOp
  go_simp
  refine (C6.out _).mono ?_
  rintro _ w8 ⟨rfl, b2⟩
  replace b1 := b1.trans (b2.mono b1.size)
  clear b2 C6
  go_simp
  refine wpSeq_yield (S := fun _ => True) (v := .bool true) (Or.inl ⟨by rfl, fun w' hw' => by go_simp⟩) trivial ?_
  simp only [Act.put, List.setIfInBounds_toArray, List.set_cons_zero, List.set_cons_succ]
  refine wpSeq_yield (S := fun _ => True) (yieldsIf_pick rfl _ _ _ rfl true rfl (.bool true) rfl) trivial ?_
  simp only [Act.put, List.setIfInBounds_toArray, List.set_cons_zero, List.set_cons_succ]
  refine wpSeq_yield (S := fun _ => True) (yieldsIf_assign rfl _ rfl (.bool true) rfl) trivial ?_
  simp only [Act.put, List.setIfInBounds_toArray, List.set_cons_zero, List.set_cons_succ]
  refine wpSeq_nil ?_
  refine aK _ _ ?_
  clear aK
  go_wp2
  go_ret
  exact ⟨rfl, b1⟩
end Go.Proofs.Ytooiaboaejcmhaa
