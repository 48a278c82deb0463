/- Contracts of field's questions: Zero, Same, Odd; '==' of Elements and of Keys. -/
import Derived.Test.YtjaomgildhiddaaDoorFe
import Derived.Test.YtjaomgildhiddaaDoorLb
namespace Go.Proofs.YtjaomgildhiddaaDoor
open Go.RowKit

theorem eq_keys (l1 l2 : List Int) (h1 : l1.length = 32) (h2 : l2.length = 32) (w : World) :
    (Op.equalIn 10000 23 (.agg (Iv .u8 l1)) (.agg (Iv .u8 l2))).run Tryd.prog w = .ok (decide (l1 = l2)) w := by
  obtain ⟨i, hi⟩ : ∃ i, Tryd.prog.info? 5 = some i := info_of_underlying Tryd.underlying5
  exact run_eq_ints w 9998 (n := 32) (e := 5) Tryd.underlying23 hi Tryd.underlying5 (by kernel_rfl) (by kernel_rfl) l1 l2 h1 h2
theorem eql_keys (l1 l2 : List Int) (h1 : l1.length = 32) (h2 : l2.length = 32) (w : World) :
    (binOp .eql 23 (.agg (Iv .u8 l1)) (.agg (Iv .u8 l2))).run Tryd.prog w = .ok (.bool (decide (l1 = l2))) w := by
  rw [run_eql_struct, eq_keys l1 l2 h1 h2]
  rfl
theorem eq_parts (l1 l2 : List Int) (h1 : l1.length = 5) (h2 : l2.length = 5) (w : World) :
    (binOp .eql 36 (.agg (Iv .u64 l1)) (.agg (Iv .u64 l2))).run Tryd.prog w = .ok (.bool (decide (l1 = l2))) w := by
  obtain ⟨i, hi⟩ : ∃ i, Tryd.prog.info? 33 = some i := info_of_underlying Tryd.underlying33
  have h := run_eq_ints w 9997 (k := .u64) (n := 5) (t := 34) (e := 33) Tryd.underlying34 hi Tryd.underlying33 (by kernel_rfl) (by kernel_rfl) l1 l2 h1 h2
  have hf : (Tryd.prog.fieldsOf 36).toList = [{ name := "parts", type := 34, offset := 0, embedded := false, tag := "", pkgPath := "skiff/field", byteOffset := 0 }] := by kernel_rfl
  have p : ∀ l : List Int, l.length = 5 → (part 34 (Iv .u64 l) 0).run Tryd.prog w = .ok (.agg (Iv .u64 l)) w := by
    intro l hl
    obtain ⟨j, hj⟩ : ∃ i, Tryd.prog.info? 34 = some i := info_of_underlying Tryd.underlying34
    have hs : j.size = 5 := by
      have : (Tryd.prog.info? 34).map (·.size) = some 5 := by kernel_rfl
      rw [hj] at this
      simpa using this
    have ha : (isAgg 34).run Tryd.prog w = .ok true w := by
      unfold isAgg
      rw [Sem.run_bind, run_underlying Tryd.underlying34 w]
      rfl
    simp only [part, Sem.run_bind, ha, Result.andThen_ok, if_true, sizeOf, typeInfo]
    simp [hj, hs]
    exact .inr (by rw [Iv_size]; omega)
  rw [run_eql_struct, run_equalIn_struct w 9999 36 _ _ (by kernel_rfl) (by kernel_rfl), hf]
  have h' : (Op.equalIn 9999 34 (.agg (Iv .u64 l1)) (.agg (Iv .u64 l2))).run Tryd.prog w = .ok (decide (l1 = l2)) w := h
  simp only [Op.eqFields, Sem.run_bind, Sem.run_ite, p l1 h1, p l2 h2, h', Result.andThen_ok]
  cases decide (l1 = l2) <;> simp

theorem El_Iv (n : Nat) : El_cells n = Iv .u64 [(n : Int) % 2251799813685248, (n : Int) / 2251799813685248 % 2251799813685248, (n : Int) / 5070602400912917605986812821504 % 2251799813685248, (n : Int) / 11417981541647679048466287755595961091061972992 % 2251799813685248, (n : Int) / 25711008708143844408671393477458601640355247900524685364822016] := rfl
theorem eq_El (a b : Nat) (w : World) : (binOp .eql 36 (.agg (El_cells a)) (.agg (El_cells b))).run Tryd.prog w = .ok (.bool (decide (a = b))) w := by
  rw [El_Iv, El_Iv, eq_parts _ _ rfl rfl]
  congr 2
  apply decide_eq_decide.2
  constructor
  · intro h
    simp only [List.cons.injEq] at h
    omega
  · rintro rfl; rfl


set_option maxHeartbeats 1000000 in
theorem same_any (a b : Nat) (w : World) : Calls Tryd.prog 51 #[El a, El b] w fun e w' => e = .returned (.bool (decide (a = b))) ∧ Below w.heap.size w w' := by
  have hq := fun W => eq_El a b W
  unfold El_cells at hq
  unfold El El_cells
  go_enter Tryd.func51, Tryd.ntmps51
  go_wp2
  go_ret
  exact ⟨rfl, ((Below.refl _ _).alloc (Nat.le_refl _) _).alloc (by simp) _⟩

set_option maxHeartbeats 1000000 in
theorem zero_any (a : Nat) (w : World) : Calls Tryd.prog 34 #[El a] w fun e w' => e = .returned (.bool (decide (a = 0))) ∧ Below w.heap.size w w' := by
  have hq := fun W => eq_El a 0 W
  change ∀ W, (binOp .eql 36 (.agg (El_cells a)) (.agg #[.int .u64 0, .int .u64 0, .int .u64 0, .int .u64 0, .int .u64 0])).run _ W = _ at hq
  unfold El_cells at hq
  unfold El El_cells
  go_enter Tryd.func34, Tryd.ntmps34
  go_wp2
  go_ret
  exact ⟨rfl, (Below.refl _ _).alloc (Nat.le_refl _) _⟩

theorem ret_bool {a b : Bool} (h : a = b) : Ending.returned (.bool a) = .returned (.bool b) := by rw [h]
theorem and1 (x : Int) (h0 : 0 ≤ x) (h1 : x < 18446744073709551616) : bits .and .u64 x 1 = x % 2 := by
  obtain ⟨n, rfl⟩ := Int.eq_ofNat_of_zero_le h0
  have h := bits_and_u64_nat n 1 (by omega) (by omega)
  have e : n &&& 1 = n % 2 := Nat.and_two_pow_sub_one_eq_mod n 1
  rw [e] at h
  exact h

set_option maxHeartbeats 1000000 in
theorem odd_any (a : Nat) (w : World) : Calls Tryd.prog 35 #[El a] w fun e w' => e = .returned (.bool (decide (a % 2 = 1))) ∧ Below w.heap.size w w' := by
  unfold El El_cells
  go_enter Tryd.func35, Tryd.ntmps35
  go_wp2
  go_ret
  refine ⟨?_, (Below.refl _ _).alloc (Nat.le_refl _) _⟩
  have e : (bits .and .u64 ((a : Int) % 2251799813685248) 1 == 1) = decide (a % 2 = 1) := by
    rw [and1 _ (by omega) (by omega), Bool.eq_iff_iff, beq_iff_eq, decide_eq_true_iff]
    omega
  exact ret_bool e


end Go.Proofs.YtjaomgildhiddaaDoor
