/- Contracts of field's questions: Zero, Same, Odd; '==' of Elements and of Keys. -/
import Derived.Test.YtgdhlafggdaipaaFe
import Derived.Test.YtgdhlafggdaipaaLb
namespace Go.Proofs.Ytgdhlafggdaipaa
open Go.RowKit

theorem eq_keys (l1 l2 : List Int) (h1 : l1.length = 32) (h2 : l2.length = 32) (w : World) :
    (Op.equalIn 10000 23 (.agg (Iv .u8 l1)) (.agg (Iv .u8 l2))).run Try.prog w = .ok (decide (l1 = l2)) w := by
  obtain ⟨i, hi⟩ : ∃ i, Try.prog.info? 5 = some i := info_of_underlying Try.underlying5
  exact run_eq_ints w 9998 (n := 32) (e := 5) Try.underlying23 hi Try.underlying5 (by kernel_rfl) (by kernel_rfl) l1 l2 h1 h2
theorem eql_keys (l1 l2 : List Int) (h1 : l1.length = 32) (h2 : l2.length = 32) (w : World) :
    (binOp .eql 23 (.agg (Iv .u8 l1)) (.agg (Iv .u8 l2))).run Try.prog w = .ok (.bool (decide (l1 = l2))) w := by
  rw [run_eql_struct, eq_keys l1 l2 h1 h2]
  rfl
theorem eq_parts (l1 l2 : List Int) (h1 : l1.length = 5) (h2 : l2.length = 5) (w : World) :
    (binOp .eql 46 (.agg (Iv .u64 l1)) (.agg (Iv .u64 l2))).run Try.prog w = .ok (.bool (decide (l1 = l2))) w := by
  obtain ⟨i, hi⟩ : ∃ i, Try.prog.info? 43 = some i := info_of_underlying Try.underlying43
  have h := run_eq_ints w 9997 (k := .u64) (n := 5) (t := 44) (e := 43) Try.underlying44 hi Try.underlying43 (by kernel_rfl) (by kernel_rfl) l1 l2 h1 h2
  have hf : (Try.prog.fieldsOf 46).toList = [{ name := "parts", type := 44, offset := 0, embedded := false, tag := "", pkgPath := "skiff/field", byteOffset := 0 }] := by kernel_rfl
  have p : ∀ l : List Int, l.length = 5 → (part 44 (Iv .u64 l) 0).run Try.prog w = .ok (.agg (Iv .u64 l)) w := by
    intro l hl
    obtain ⟨j, hj⟩ : ∃ i, Try.prog.info? 44 = some i := info_of_underlying Try.underlying44
    have hs : j.size = 5 := by
      have : (Try.prog.info? 44).map (·.size) = some 5 := by kernel_rfl
      rw [hj] at this
      simpa using this
    have ha : (isAgg 44).run Try.prog w = .ok true w := by
      unfold isAgg
      rw [Sem.run_bind, run_underlying Try.underlying44 w]
      rfl
    simp only [part, Sem.run_bind, ha, Result.andThen_ok, if_true, sizeOf, typeInfo]
    simp [hj, hs]
    exact .inr (by rw [Iv_size]; omega)
  rw [run_eql_struct, run_equalIn_struct w 9999 46 _ _ (by kernel_rfl) (by kernel_rfl), hf]
  have h' : (Op.equalIn 9999 44 (.agg (Iv .u64 l1)) (.agg (Iv .u64 l2))).run Try.prog w = .ok (decide (l1 = l2)) w := h
  simp only [Op.eqFields, Sem.run_bind, Sem.run_ite, p l1 h1, p l2 h2, h', Result.andThen_ok]
  cases decide (l1 = l2) <;> simp

theorem El_Iv (n : Nat) : El_cells n = Iv .u64 [(n : Int) % 2251799813685248, (n : Int) / 2251799813685248 % 2251799813685248, (n : Int) / 5070602400912917605986812821504 % 2251799813685248, (n : Int) / 11417981541647679048466287755595961091061972992 % 2251799813685248, (n : Int) / 25711008708143844408671393477458601640355247900524685364822016] := rfl
theorem eq_El (a b : Nat) (w : World) : (binOp .eql 46 (.agg (El_cells a)) (.agg (El_cells b))).run Try.prog w = .ok (.bool (decide (a = b))) w := by
  rw [El_Iv, El_Iv, eq_parts _ _ rfl rfl]
  congr 2
  apply decide_eq_decide.2
  constructor
  · intro h
    simp only [List.cons.injEq] at h
    omega
  · rintro rfl; rfl


theorem ret_bool {a b : Bool} (h : a = b) : Ending.returned (.bool a) = .returned (.bool b) := by rw [h]
theorem and1 (x : Int) (h0 : 0 ≤ x) (h1 : x < 18446744073709551616) : bits .and .u64 x 1 = x % 2 := by
  obtain ⟨n, rfl⟩ := Int.eq_ofNat_of_zero_le h0
  have h := bits_and_u64_nat n 1 (by omega) (by omega)
  have e : n &&& 1 = n % 2 := Nat.and_two_pow_sub_one_eq_mod n 1
  rw [e] at h
  exact h

end Go.Proofs.Ytgdhlafggdaipaa
